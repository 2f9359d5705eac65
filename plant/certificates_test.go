package plant_test

import (
	"slices"
	"strconv"
	"testing"

	"etalon/api"
	"etalon/band"
	"etalon/plant"
)

// exampleCertificate is the certificate of the chapter's first example.
func exampleCertificate() api.PlantCertificate {
	return api.PlantCertificate{Part: "p", Batch: "b1", Product: "ar", Layers: layers("H:500"), Thick: []api.Range{just(500)}, Trees: [][]int{{0}}}
}

// banded is a setup with a product of two demands on bands, of which each one needs cuts.
func banded() api.PlantSetup {
	s := rich()
	s.Products = append(s.Products, product("wide", "reflected s 10000 0 1000 3500 4500 0 2000", "reflected p 10000 0 500 3800 4200 0 350"))
	return s
}

// wideLog is a log with a certified part of that product.
func wideLog() []api.PlantEntry {
	return logOf(append(coatedWith("wide", "H:400,H:60,H:40", "399 401", "59 60", "40 40"), "cid certify p")...)
}

// P10.5: CertificateOf.
func TestCertificateOf(t *testing.T) {
	again := append(certified(), "ann strip p", "ann batch b2 r 1 v p", "ann stop 0 499 500", "ann done")
	second := exampleCertificate()
	second.Batch, second.Thick = "b2", []api.Range{span(499, 500)}
	ofWitness := exampleCertificate()
	ofWitness.Part = "w"
	none := api.PlantCertificate{}
	for _, x := range []struct {
		name  string
		log   []string
		part  string
		want  api.PlantCertificate
		errno api.Errno
	}{
		{"the chapter's first example", certified(), "p", exampleCertificate(), api.OK},
		{"the witness piece is not certified", certified(), "w", none, api.ErrMissing},
		{"the witness piece", append(certified(), "cid certify w"), "w", ofWitness, api.OK},
		{"no such part", certified(), "q", none, api.ErrMissing},
		{"an empty name", certified(), "", none, api.ErrMissing},
		{"byte by byte", certified(), "P", none, api.ErrMissing},
		{"a batch", certified(), "b1", none, api.ErrMissing},
		{"not certified yet", done(), "p", none, api.ErrMissing},
		{"stripped", append(certified(), "ann strip p"), "p", none, api.ErrMissing},
		{"coated again", again, "p", none, api.ErrMissing},
		{"certified again", append(again, "cid certify p"), "p", second, api.OK},
		{"refuted later, but certified", append(certified(), "ann measure b1 "+refuting), "p", exampleCertificate(), api.OK},
		{"a wrong log", certified()[1:], "p", none, api.ErrMissing},
		{"another wrong log", append(done(), "cid certify p", "ann done"), "p", none, api.ErrState},
	} {
		c, e := plant.CertificateOf(plain(), logOf(x.log...), x.part)
		wantSame(t, x.name, c, e, x.want, x.errno)
	}
	c, e := plant.CertificateOf(banded(), wideLog(), "p")
	want := api.PlantCertificate{Part: "p", Batch: "b1", Product: "wide", Layers: layers("H:400,H:60,H:40"), Thick: []api.Range{span(399, 401), span(59, 60), just(40)}}
	for _, task := range must[[]api.BandTask](t)(plant.TasksOf(banded(), wideLog(), "b1")) {
		answer, trees, _, e := band.Answer(task)
		wantSame(t, "the answer of a task", answer, e, api.AnswerYes, api.OK)
		want.Trees = append(want.Trees, trees[0])
	}
	wantSame(t, "two demands and three layers", c, e, want, api.OK)
	for i, tree := range want.Trees {
		wantSeen(t, "nodes of the tree "+strconv.Itoa(i), len(tree), 3)
	}
}

// P10.5: right certificates, and how many pieces they have.
func TestCheckCertificate(t *testing.T) {
	n, e := plant.CheckCertificate(plain(), exampleCertificate())
	wantSame(t, "the chapter's first example", n, e, 1, api.OK)
	c := must[api.PlantCertificate](t)(plant.CertificateOf(banded(), wideLog(), "p"))
	n, e = plant.CheckCertificate(banded(), c)
	pieces := 0
	for _, tree := range c.Trees {
		for _, node := range tree {
			if node == api.CutNone {
				pieces++
			}
		}
	}
	wantSame(t, "two demands", n, e, pieces, api.OK)
	wantSeen(t, "pieces", pieces, 4)
	for _, x := range []struct {
		name string
		do   func(c *api.PlantCertificate)
	}{
		{"thicknesses of layers are not looked at", func(c *api.PlantCertificate) { c.Layers[0].Thick = -1 }},
		{"narrower thicknesses", func(c *api.PlantCertificate) { c.Thick[0] = just(400) }},
		{"another part and batch", func(c *api.PlantCertificate) { c.Part, c.Batch = "Z-9", "abcdefghijkl" }},
		{"one layer more without thickness", func(c *api.PlantCertificate) {
			c.Layers, c.Thick = append(layers("L:7"), c.Layers...), append([]api.Range{just(0)}, c.Thick...)
		}},
	} {
		right := copyOf(c)
		x.do(&right)
		n, e = plant.CheckCertificate(banded(), right)
		wantSame(t, x.name, n, e, pieces, api.OK)
	}
	bare := api.PlantCertificate{Part: "p", Batch: "b", Product: "x", Trees: [][]int{{0}}}
	s := plain()
	s.Products = []api.PlantProduct{product("x", "reflected s 10000 0 0 4000 4000 3599 3601")}
	n, e = plant.CheckCertificate(s, bare)
	wantSame(t, "no layers", n, e, 1, api.OK)
	full := exampleCertificate()
	full.Layers, full.Thick = slices.Repeat(layers("H:1"), 40), slices.Repeat([]api.Range{just(0)}, 39)
	full.Thick = append(full.Thick, just(500))
	n, e = plant.CheckCertificate(plain(), full)
	wantSame(t, "as many layers as there may be", n, e, 1, api.OK)
}

// copyOf returns a certificate with lists of its own.
func copyOf(c api.PlantCertificate) api.PlantCertificate {
	c.Layers, c.Thick, c.Trees = slices.Clone(c.Layers), slices.Clone(c.Thick), slices.Clone(c.Trees)
	for i, tree := range c.Trees {
		c.Trees[i] = slices.Clone(tree)
	}
	return c
}

// certificateDefects returns the defects of the certificate of the two demands on bands, in the order of their errors.
func certificateDefects(right api.PlantCertificate) []defect[api.PlantCertificate] {
	type certificate = api.PlantCertificate
	thick := func(i int) func(c *certificate) *api.Range {
		return func(c *certificate) *api.Range { return &c.Thick[i] }
	}
	ranges := func(i int) []defect[certificate] {
		return slices.Concat(
			within("Lo", func(c *certificate) *int { return &thick(i)(c).Lo }, beyond(0, api.MaxThick, api.ErrRange)),
			within("Hi", func(c *certificate) *int { return &thick(i)(c).Hi }, beyond(0, api.MaxThick, api.ErrRange)),
			[]defect[certificate]{{"the order", func(c *certificate) { c.Thick[i] = span(7, 6) }, api.ErrOrder, 0}},
		)
	}
	material := func(i int, name string, e api.Errno) defect[certificate] {
		return defect[certificate]{"the material " + strconv.Quote(name), func(c *certificate) { c.Layers[i].Name = name }, e, 0}
	}
	return slices.Concat(
		within("part", func(c *certificate) *string { return &c.Part }, nameDefects(api.ErrName)),
		within("batch", func(c *certificate) *string { return &c.Batch }, nameDefects(api.ErrName)),
		[]defect[certificate]{
			{"no product", func(c *certificate) { c.Product = "" }, api.ErrMissing, 0},
			{"no such product", func(c *certificate) { c.Product = "Wide" }, api.ErrMissing, 0},
			{"a thickness less", func(c *certificate) { c.Thick = c.Thick[:2] }, api.ErrShape, 0},
			{"a thickness more", func(c *certificate) { c.Thick = append(c.Thick[:3:3], just(0)) }, api.ErrShape, 0},
			{"no trees", func(c *certificate) { c.Trees = nil }, api.ErrShape, 0},
			{"a tree less", func(c *certificate) { c.Trees = c.Trees[:1] }, api.ErrShape, 0},
			{"a tree more", func(c *certificate) { c.Trees = append(c.Trees[:2:2], []int{0}) }, api.ErrShape, 0},
			{"one layer too many", func(c *certificate) {
				c.Layers, c.Thick = lengthen(c.Layers, api.MaxLayers+1), lengthen(c.Thick, api.MaxLayers+1)
			}, api.ErrLarge, 0},
			material(0, "Z", api.ErrMissing),
			material(0, "", api.ErrMissing),
		},
		ranges(0),
		[]defect[certificate]{material(2, "h", api.ErrMissing)},
		ranges(2),
		[]defect[certificate]{
			material(0, "N", api.ErrNone),
			material(1, "K", api.ErrUnit),
			material(2, "N", api.ErrNone),
			{"an empty tree", func(c *certificate) { c.Trees[0] = nil }, api.ErrShape, 0},
			{"a tree too large", func(c *certificate) { c.Trees[0] = make([]int, 64) }, api.ErrLarge, 0},
			{"a node of no kind", func(c *certificate) { c.Trees[0][0] = 3 }, api.ErrKind, 0},
			{"a tree of one piece", func(c *certificate) { c.Trees[0] = []int{0} }, api.ErrProof, 0},
			{"a node more", func(c *certificate) { c.Trees[1] = append(slices.Clone(right.Trees[1]), 0) }, api.ErrShape, 0},
			{"nodes less", func(c *certificate) { c.Trees[1] = []int{2, 1} }, api.ErrShape, 0},
			{"the second tree has one piece", func(c *certificate) { c.Trees[1] = []int{0} }, api.ErrProof, 0},
		},
	)
}

// P10.5: each error of a certificate, alone and beside each later one.
func TestCertificateDefects(t *testing.T) {
	s, log := banded(), wideLog()
	c := must[api.PlantCertificate](t)(plant.CertificateOf(s, log, "p"))
	wantDefects(t, "CheckCertificate", func() api.PlantCertificate { return copyOf(c) }, certificateDefects(c), func(c api.PlantCertificate) (int, api.Errno) {
		n, e := plant.CheckCertificate(s, c)
		if e == api.OK {
			return notTold, e
		}
		return n, e
	})
	other := copyOf(c)
	other.Product = "ar"
	n, e := plant.CheckCertificate(s, other)
	wantSame(t, "the product of one demand", n, e, 0, api.ErrShape)
	other = copyOf(c)
	other.Thick[0] = just(0)
	n, e = plant.CheckCertificate(s, other)
	wantSame(t, "another thickness", n, e, 0, api.ErrProof)
	other = copyOf(c)
	other.Layers[0].Name = "L"
	n, e = plant.CheckCertificate(s, other)
	wantSame(t, "another material", n, e, 0, api.ErrProof)
}

// P10.5: the error of the second demand's material comes ahead of that of the first tree.
func TestCertificateOfAll(t *testing.T) {
	s := plain()
	s.Products[0].Demands = append(s.Products[0].Demands, demand("reflected s 10000 0 0 4001 4001 0 10000"))
	c := exampleCertificate()
	c.Trees = [][]int{nil, nil}
	n, e := plant.CheckCertificate(s, c)
	wantSame(t, "a material without the second demand's wavelength", n, e, 0, api.ErrNone)
	s.Products[0].Demands[1].Wave = just(4000)
	n, e = plant.CheckCertificate(s, c)
	wantSame(t, "the first tree", n, e, 0, api.ErrShape)
	c.Trees[0] = []int{0}
	n, e = plant.CheckCertificate(s, c)
	wantSame(t, "the second tree", n, e, 0, api.ErrShape)
	c.Trees[1] = []int{0}
	n, e = plant.CheckCertificate(s, c)
	wantSame(t, "right", n, e, 2, api.OK)
}
