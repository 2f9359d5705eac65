package plant

import (
	"slices"

	"etalon/api"
	"etalon/band"
	"etalon/rack"
	"etalon/span"
	"etalon/text"
)

// CertificateOf returns the certificate of a certified part.
func CertificateOf(s api.PlantSetup, log []api.PlantEntry, part string) (api.PlantCertificate, api.Errno) {
	p, _, e := replayed(s, log)
	if e != api.OK {
		return api.PlantCertificate{}, e
	}
	if !slices.Contains(p.Certified, part) {
		return api.PlantCertificate{}, api.ErrMissing
	}
	return p.certificate(part), api.OK
}

// certificate returns the certificate of a certified part. It is coated in a batch that is done, and all demands were
// proved when it was certified, so nothing here has an error.
func (p *plant) certificate(part string) api.PlantCertificate {
	state, _ := rack.StateOf(p.Events, part)
	b := p.batch(state.Batch)
	c := p.coatingOf(b)
	return api.PlantCertificate{
		Part:    part,
		Batch:   b.Name,
		Product: p.recipe(b.Recipe).Product,
		Layers:  c.layers,
		Thick:   c.thick,
		Trees:   c.trees(),
	}
}

// trees returns a tree for each demand. It is for demands that are proved.
func (c coating) trees() [][]int {
	var trees [][]int
	for _, d := range c.demands {
		t, _ := c.task(d)
		_, tree, _, _ := band.Answer(t)
		trees = append(trees, tree...)
	}
	return trees
}

// CheckCertificate accepts a certificate that proves its demands, and returns the number of all pieces together.
func CheckCertificate(s api.PlantSetup, c api.PlantCertificate) (int, api.Errno) {
	if _, e := CheckSetup(s); e != api.OK {
		return 0, e
	}
	if !text.IsName(c.Part) || !text.IsName(c.Batch) {
		return 0, api.ErrName
	}
	product := productOf(s.Products, c.Product)
	if product == nil {
		return 0, api.ErrMissing
	}
	if len(c.Thick) != len(c.Layers) || len(c.Trees) != len(product.Demands) {
		return 0, api.ErrShape
	}
	if e := checkLayers(s.Glasses, c); e != api.OK {
		return 0, e
	}
	tasks, e := coating{s, product.Demands, c.Layers, c.Thick}.tasks()
	if e != api.OK {
		return 0, e
	}
	return checkTrees(tasks, c.Trees)
}

// checkLayers checks the layers of a certificate and as many thicknesses.
func checkLayers(l []api.Glass, c api.PlantCertificate) api.Errno {
	if len(c.Layers) > api.MaxLayers {
		return api.ErrLarge
	}
	_, e := firstWrong(c.Layers, func(i int, x api.StackLayer) api.Errno {
		if e := checkMaterial(l, x); e != api.OK {
			return e
		}
		return span.Check(c.Thick[i], 0, api.MaxThick)
	})
	return e
}

// checkTrees checks a tree for each task of one demand, and returns the number of all pieces together.
func checkTrees(tasks []api.BandTask, trees [][]int) (int, api.Errno) {
	all := 0
	_, e := firstWrong(tasks, func(i int, t api.BandTask) api.Errno {
		pieces, e := band.CheckTree(t, 0, trees[i])
		all += pieces
		return e
	})
	if e != api.OK {
		return 0, e
	}
	return all, api.OK
}
