package plant_test

import (
	"slices"
	"strconv"
	"strings"
	"testing"

	"etalon/api"
	"etalon/plant"
)

// version returns a version without layers.
func version(parents ...int) api.PlantVersion { return api.PlantVersion{Parents: parents} }

// versions returns a list of versions.
func versions(l ...api.PlantVersion) []api.PlantVersion { return l }

// chain is so many versions, each one made from the one before.
func chain(count int) []api.PlantVersion {
	l := versions(version())
	for len(l) < count {
		l = append(l, version(len(l)))
	}
	return l
}

// P10.2: CheckVersions.
func TestCheckVersions(t *testing.T) {
	for _, x := range []struct {
		name   string
		l      []api.PlantVersion
		number int
		errno  api.Errno
	}{
		{"no versions", nil, 0, api.OK},
		{"one version", versions(version()), 0, api.OK},
		{"an empty list of parents", versions(api.PlantVersion{Parents: []int{}}), 0, api.OK},
		{"the chapter's example", versions(version(), version(1), version(1)), 0, api.OK},
		{"a merge", versions(version(), version(1), version(1), version(3, 2)), 0, api.OK},
		{"a merge with an ancestor is right here", versions(version(), version(1), version(1, 2)), 0, api.OK},
		{"as many as there may be", chain(20), 0, api.OK},
		{"one too many", chain(21), 0, api.ErrLarge},
		{"one too many, and a wrong one", append(versions(version(1)), chain(20)...), 0, api.ErrLarge},
		{"a parent of the first one", versions(version(1)), 0, api.ErrShape},
		{"a parent of the first one that is no number of a version", versions(version(7), version()), 0, api.ErrShape},
		{"no parents", versions(version(), version(1), version()), 2, api.ErrShape},
		{"three parents", versions(version(), version(1), version(1), version(1, 2, 3)), 3, api.ErrShape},
		{"three parents that are none", versions(version(), version(9, 9, 9)), 1, api.ErrShape},
		{"the parent 0", versions(version(), version(0)), 1, api.ErrMissing},
		{"a parent below 0", versions(version(), version(-1)), 1, api.ErrMissing},
		{"itself as the parent", versions(version(), version(1), version(3)), 2, api.ErrMissing},
		{"a later one as the parent", versions(version(), version(3), version(1)), 1, api.ErrMissing},
		{"itself as the second parent", versions(version(), version(1), version(1, 3)), 2, api.ErrMissing},
		{"itself twice", versions(version(), version(2, 2)), 1, api.ErrMissing},
		{"one parent twice", versions(version(), version(1), version(2, 2)), 2, api.ErrDouble},
		{"the first wrong one decides", versions(version(), version(1, 1), version()), 1, api.ErrDouble},
	} {
		i, e := plant.CheckVersions(x.l)
		wantSame(t, x.name, i, e, x.number, x.errno)
	}
}

// P10.2: CommonVersion.
func TestCommonVersion(t *testing.T) {
	// 2 and 3 come from 1; 4 is a merge of both, 5 comes from 3, 6 from 4, 7 from 5.
	tree := versions(version(), version(1), version(1), version(2, 3), version(3), version(4), version(5))
	crossed := versions(version(), version(1), version(1), version(2, 3), version(3, 2))
	far := append(chain(18), version(1), version(19))
	for _, x := range []struct {
		name  string
		l     []api.PlantVersion
		a, b  int
		want  int
		errno api.Errno
	}{
		{"the chapter's example", versions(version(), version(1), version(1)), 2, 3, 1, api.OK},
		{"the same one", tree, 5, 5, 5, api.OK},
		{"the first one", tree, 1, 1, 1, api.OK},
		{"an ancestor", tree, 1, 7, 1, api.OK},
		{"a parent", tree, 5, 3, 3, api.OK},
		{"the second parent of a merge", tree, 4, 3, 3, api.OK},
		{"the first parent of a merge", tree, 2, 6, 2, api.OK},
		{"through the second parent", tree, 6, 7, 3, api.OK},
		{"not through it", tree, 2, 7, 1, api.OK},
		{"the greatest one of two", crossed, 4, 5, 3, api.OK},
		{"far back", far, 18, 20, 1, api.OK},
		{"a long chain", chain(20), 20, 13, 13, api.OK},
		{"no such version a", tree, 8, 1, 0, api.ErrMissing},
		{"no such version b", tree, 1, 8, 0, api.ErrMissing},
		{"0", tree, 0, 1, 0, api.ErrMissing},
		{"below 0", tree, 1, -1, 0, api.ErrMissing},
		{"no versions", nil, 1, 1, 0, api.ErrMissing},
		{"wrong versions", versions(version(), version()), 9, 9, 0, api.ErrShape},
		{"too many versions", chain(21), 1, 1, 0, api.ErrLarge},
	} {
		n, e := plant.CommonVersion(x.l, x.a, x.b)
		wantSame(t, x.name, n, e, x.want, x.errno)
	}
}

// bookIsAncestor says whether a version is an ancestor of another one.
func bookIsAncestor(l []api.PlantVersion, ancestor, of int) bool {
	return ancestor == of || slices.ContainsFunc(l[of-1].Parents, func(parent int) bool { return bookIsAncestor(l, ancestor, parent) })
}

// bookCommon returns the common version of two.
func bookCommon(l []api.PlantVersion, a, b int) int {
	greatest := 0
	for n := range len(l) + 1 {
		if n > 0 && bookIsAncestor(l, n, a) && bookIsAncestor(l, n, b) {
			greatest = n
		}
	}
	return greatest
}

// allVersions calls a function with all right lists of so many versions.
func allVersions(l []api.PlantVersion, count int, call func(l []api.PlantVersion)) {
	if len(l) == count {
		call(l)
		return
	}
	for a := range len(l) + 1 {
		for b := range len(l) + 1 {
			if _, e := plant.CheckVersions(append(slices.Clone(l), version(a, b))); e == api.OK {
				allVersions(append(slices.Clone(l), version(a, b)), count, call)
			}
		}
		if a > 0 {
			allVersions(append(slices.Clone(l), version(a)), count, call)
		}
	}
}

// P10.2, P10.10: the common version of all small lists is that of the definition, and does not depend on the order.
func TestCommonVersionOfAll(t *testing.T) {
	seen := 0
	allVersions(versions(version()), 5, func(l []api.PlantVersion) {
		seen++
		for a := 1; a <= len(l); a++ {
			for b := 1; b <= len(l); b++ {
				n, e := plant.CommonVersion(l, a, b)
				wantSame(t, "CommonVersion", n, e, bookCommon(l, a, b), api.OK)
			}
		}
	})
	// A version behind n others is made from one of them, or from two in an order: n * n ways.
	wantSeen(t, "lists", seen, 1*4*9*16)
}

// layers returns the layers of a text, without its restrictions.
func layers(text string) []api.StackLayer {
	var l []api.StackLayer
	for _, word := range strings.Fields(strings.ReplaceAll(text, ",", " ")) {
		name, thick, _ := strings.Cut(word, ":")
		n, _ := strconv.Atoi(thick)
		l = append(l, api.StackLayer{Name: name, Thick: n})
	}
	return l
}

// many returns so many layers.
func many(count int) []api.StackLayer { return slices.Repeat(layers("A:1"), count) }

// P10.2: MergedLayers.
func TestMergedLayers(t *testing.T) {
	for _, x := range []struct {
		name       string
		base, a, b string
		want       string
		number     int
		errno      api.Errno
	}{
		{"the chapter's example", "A:1,B:2", "A:5,B:2", "A:1,B:7", "A:5,B:7", 0, api.OK},
		{"the other way round", "A:1,B:2", "A:1,B:7", "A:5,B:2", "A:5,B:7", 0, api.OK},
		{"nothing", "", "", "", "", 0, api.OK},
		{"a is base", "A:1", "A:1", "B:2,C:3", "B:2,C:3", 0, api.OK},
		{"b is base", "A:1", "B:2,C:3", "A:1", "B:2,C:3", 0, api.OK},
		{"all layers are taken away", "A:1", "", "A:1", "", 0, api.OK},
		{"both are the same", "A:1", "B:2,C:3", "B:2,C:3", "B:2,C:3", 0, api.OK},
		{"a layer is the same", "A:1,B:2,C:3", "A:1,B:9,D:3", "A:4,B:9,C:3", "A:4,B:9,D:3", 0, api.OK},
		{"a material is another one", "A:1,B:2", "C:1,B:2", "A:1,B:3", "C:1,B:3", 0, api.OK},
		{"the first layer clashes", "A:1,B:2", "A:5,B:2", "A:6,B:2", "", 0, api.ErrClash},
		{"the last layer clashes", "A:1,B:2,C:3", "A:1,B:5,C:7", "A:9,B:2,C:8", "", 2, api.ErrClash},
		{"the first one of two clashes", "A:1,B:2,C:3", "A:1,B:5,C:7", "A:1,B:6,C:8", "", 1, api.ErrClash},
		{"material and thickness of one layer", "A:1", "B:1", "A:2", "", 0, api.ErrClash},
		{"a has more layers", "A:1,B:2", "A:1,B:2,C:3", "A:1,B:3", "", 0, api.ErrClash},
		{"b has fewer layers", "A:1,B:2", "A:1,B:3", "A:1", "", 0, api.ErrClash},
		{"base has more layers", "A:1,B:2,C:3", "A:1,B:2", "A:1,B:3", "", 0, api.ErrClash},
		{"base has none", "", "A:1", "A:2", "", 0, api.ErrClash},
	} {
		merged, i, e := plant.MergedLayers(layers(x.base), layers(x.a), layers(x.b))
		wantSame(t, x.name, merged, e, layers(x.want), x.errno)
		wantSame(t, x.name+", the number", i, e, x.number, x.errno)
	}
}

// P10.2: how many layers MergedLayers takes, in each place.
func TestManyLayers(t *testing.T) {
	most, beyond := many(api.MaxLayers), many(api.MaxLayers+1)
	merged, i, e := plant.MergedLayers(most, most, most)
	wantSame(t, "as many as there may be", merged, e, most, api.OK)
	wantSame(t, "the number", i, e, 0, api.OK)
	last := slices.Clone(most)
	last[39].Thick = 2
	other := slices.Clone(most)
	other[39].Thick = 3
	_, i, e = plant.MergedLayers(most, last, other)
	wantSame(t, "the last one of so many clashes", i, e, 39, api.ErrClash)
	for _, x := range [][3][]api.StackLayer{{beyond, most, most}, {most, beyond, most}, {most, most, beyond}, {beyond, beyond, beyond}, {nil, nil, beyond}} {
		merged, i, e = plant.MergedLayers(x[0], x[1], x[2])
		wantSame(t, "one too many", merged, e, nil, api.ErrLarge)
		wantSame(t, "one too many, the number", i, e, 0, api.ErrLarge)
	}
}

// bookMerged merges layers as the definition says it; one of -1 says that they have not as many.
func bookMerged(base, a, b []api.StackLayer) (merged []api.StackLayer, clash int, ok bool) {
	if slices.Equal(a, base) {
		return b, 0, true
	}
	if slices.Equal(b, base) || slices.Equal(b, a) {
		return a, 0, true
	}
	if len(a) != len(base) || len(b) != len(base) {
		return nil, 0, false
	}
	for i := range base {
		if a[i] == base[i] {
			merged = append(merged, b[i])
		} else if b[i] == base[i] || b[i] == a[i] {
			merged = append(merged, a[i])
		} else {
			return nil, i, false
		}
	}
	return merged, 0, true
}

// allLayers returns all lists of up to so many of three layers.
func allLayers(most int) [][]api.StackLayer {
	all := [][]api.StackLayer{nil}
	for from := 0; len(all[from]) < most; from++ {
		for _, x := range layers("A:1,A:2,B:1") {
			all = append(all, append(slices.Clone(all[from]), x))
		}
	}
	return all
}

// P10.2, P10.10: all small lists are merged as the definition says it. Merging with the base gives the other one; merging a
// with b, and b with a, gives the same, or clashes at the same layer.
func TestMergedLayersOfAll(t *testing.T) {
	all := allLayers(3)
	seen := 0
	for _, base := range all {
		for _, a := range all {
			for _, b := range all {
				want, clash, ok := bookMerged(base, a, b)
				errno := api.ErrClash
				if ok {
					errno = api.OK
					seen++
				}
				merged, i, e := plant.MergedLayers(base, a, b)
				back, j, f := plant.MergedLayers(base, b, a)
				if !same(merged, want) || i != clash || e != errno || !same(back, want) || j != clash || f != errno {
					t.Fatalf("%v, %v, %v: %v, %d, %d; back %v, %d, %d; want %v, %d, %d", base, a, b, merged, i, e, back, j, f, want, clash, errno)
				}
			}
			merged, i, e := plant.MergedLayers(base, a, base)
			wantSame(t, "merged with the base", merged, e, a, api.OK)
			wantSame(t, "the number", i, e, 0, api.OK)
		}
	}
	wantSeen(t, "merges without a clash", seen, 3000)
}
