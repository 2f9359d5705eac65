package glass_test

import (
	"strconv"
	"testing"

	"etalon/api"
	"etalon/glass"
)

// P2.1: CheckGlass.
func TestCheckGlass(t *testing.T) {
	wave := table([3]int{1000, 5000, 0}, [3]int{200000, 80000, 80000})
	wave.Loss[0] = float32(minusZero)
	empty := formula(15000, 0)
	empty.Waves, empty.Index, empty.Loss = []int{}, []float32{}, []float32{}
	for _, g := range []api.Glass{
		wave, longTable(64), table([3]int{5000, 15000, 0}),
		formula(5000, 0), formula(60000, 20000), empty,
		called("A-z0123456789"[:12], formula(15000, 1)), called("glass", wave), called("row", wave), called("note", wave),
	} {
		row, e := glass.CheckGlass(g)
		wantSame(t, g.Name, row, e, 0, api.OK)
	}
	for _, x := range wrongGlasses() {
		row, e := glass.CheckGlass(x.g)
		wantSame(t, x.name, row, e, x.row, x.errno)
	}
}

// numbered returns so many right materials with names of their own.
func numbered(many int) []api.Glass {
	var l []api.Glass
	for i := range many {
		l = append(l, called("n"+strconv.Itoa(i), formula(15000, i)))
	}
	return l
}

// P2.1: CheckCatalogue.
func TestCheckCatalogue(t *testing.T) {
	for _, l := range [][]api.Glass{nil, {}, numbered(1), numbered(20)} {
		i, e := glass.CheckCatalogue(l)
		wantSame(t, "a right one", i, e, 0, api.OK)
	}
	i, e := glass.CheckCatalogue(numbered(21))
	wantSame(t, "too many", i, e, 0, api.ErrLarge)
	i, e = glass.CheckCatalogue(make([]api.Glass, 21))
	wantSame(t, "too many ahead of wrong ones", i, e, 0, api.ErrLarge)
	for _, x := range wrongGlasses() {
		l := numbered(5)
		l[3], l[4] = x.g, api.Glass{}
		i, e := glass.CheckCatalogue(l)
		wantSame(t, x.name, i, e, 3, x.errno)
	}
	twice := numbered(6)
	twice[2].Name, twice[4].Name = "n0", "n1"
	i, e = glass.CheckCatalogue(twice)
	wantSame(t, "a name twice", i, e, 2, api.ErrExists)
	twice[2].Cauchy[0] = 0
	i, e = glass.CheckCatalogue(twice)
	wantSame(t, "a wrong one with a name twice", i, e, 2, api.ErrRange)
	cases := numbered(2)
	cases[0].Name, cases[1].Name = "a", "A"
	i, e = glass.CheckCatalogue(cases)
	wantSame(t, "letters of both cases", i, e, 0, api.OK)
}

// P2.1: Find.
func TestFind(t *testing.T) {
	l := numbered(20)
	for want, g := range l {
		i, e := glass.Find(l, g.Name)
		wantSame(t, g.Name, i, e, want, api.OK)
	}
	for _, name := range []string{"n20", "N0", "n", "", "no name", "n0 "} {
		i, e := glass.Find(l, name)
		wantSame(t, name, i, e, 0, api.ErrMissing)
	}
	i, e := glass.Find(nil, "n0")
	wantSame(t, "of nothing", i, e, 0, api.ErrMissing)
	i, e = glass.Find(numbered(21), "n0")
	wantSame(t, "of too many", i, e, 0, api.ErrLarge)
	for _, x := range wrongGlasses() {
		l := numbered(3)
		l[2] = x.g
		i, e := glass.Find(l, "n1")
		wantSame(t, x.name, i, e, 0, x.errno)
	}
	l[7].Name = "n5"
	i, e = glass.Find(l, "n1")
	wantSame(t, "a name twice", i, e, 0, api.ErrExists)
}
