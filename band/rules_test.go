package band_test

import (
	"math"
	"math/rand/v2"
	"reflect"
	"slices"
	"testing"

	"etalon/api"
	"etalon/band"
)

// oddInts are ints at all kinds of ends.
func oddInts() []int {
	return []int{math.MinInt, math.MinInt + 1, -1, 0, 1, 2, 3, 5, 6, 9, 63, 100, 999, 4000, 5000, 9999, 10000, 80000, 200000, api.One, api.MaxPart, math.MaxInt - 1, math.MaxInt}
}

// odd returns numbers that are anything.
func odd(r *rand.Rand) func() int {
	l := oddInts()
	return func() int { return l[r.IntN(len(l))] }
}

// oddSearch returns a search of any numbers.
func oddSearch(r *rand.Rand) api.BandSearch {
	n, x := odd(r), drawnSearch(r)
	for range 1 + r.IntN(2) {
		switch r.IntN(7) {
		case 0:
			x.Demands[0].Share = n()
		case 1:
			x.Demands[0].Sine = span(n(), n())
		case 2:
			x.Demands[0].Wave = span(n(), n())
		case 3:
			x.Demands = append(x.Demands, api.BandDemand{Share: n(), Polar: n(), Index: n(), Wave: span(n(), n()), Least: n(), Most: n()})
		case 4:
			x.On = api.Substrate{Index: n(), Loss: n()}
		case 5:
			x.Options[0] = api.LayerBox{Index: span(n(), n()), Thick: span(n(), n()), Loss: n()}
		default:
			x.Most = n()
		}
	}
	return x
}

// R2: no arguments make a function of tasks and searches panic, and beside an error stands the zero value.
func TestNoPanic(t *testing.T) {
	r := draws(70)
	n := odd(r)
	for range 8000 {
		x := oddSearch(r)
		task := api.BandTask{Demands: x.Demands, Layers: x.Options, On: x.On}
		demand := n()
		for _, f := range onesOfTasks() {
			if e, none := f.call(task, demand); e != api.OK && !none {
				t.Fatalf("%s of %v: a result beside the error %d", f.name, task, e)
			}
		}
		if s, e := band.Over(task, r.IntN(3), n()); e != api.OK && s != (api.Range{}) {
			t.Fatalf("%v: %v, %d", task, s, e)
		}
		if a, e := band.AnswerAt(task, r.IntN(2), piece(span(n(), n()), span(n(), n()))); e != api.OK && a != 0 {
			t.Fatalf("%v: %d, %d", task, a, e)
		}
		band.CheckPoint(task, api.BandPoint{Demand: r.IntN(2), Wave: n(), Sine: n()})
		tree := []int{n(), n(), 0, n()}
		if i, e := band.CheckTree(task, 0, tree); e != api.OK && e != api.ErrProof && i != 0 {
			t.Fatalf("%v of %v: %d, %d", tree, task, i, e)
		}
		_, wrong := band.CheckTask(task)
		answer, trees, point, e := band.Answer(task)
		if e != wrong || answer != api.AnswerYes && trees != nil || answer != api.AnswerNo && point != (api.BandPoint{}) || e != api.OK && answer != 0 {
			t.Fatalf("%v: %d, %v, %v, %d", task, answer, trees, point, e)
		}
		if d, e := band.LeastDesign(x); e != api.OK && !sameDesign(d, api.BandDesign{}) {
			t.Fatalf("%v: %v, %d", x, d, e)
		}
		d := api.BandDesign{Layers: []int{n(), n()}[:r.IntN(3)], Trees: [][]int{tree, {n()}}[:r.IntN(3)], Refuted: broken(r.IntN(3))}
		if i, e := band.CheckDesign(x, d); e != api.OK && i != 0 {
			t.Fatalf("%v of %v: %d, %d", d, x, i, e)
		}
	}
}

// R2: no fractions make a function panic, and beside an error stands the zero value.
func TestNoPanicOfFractions(t *testing.T) {
	r := draws(71)
	n := odd(r)
	f := func() api.Frac { return of(n(), n()) }
	for range 50000 {
		l := []api.BandPlate{{Index: f(), Half: f(), Open: r.IntN(2) == 0}, plate(f(), of(0, 1)), {}}[:r.IntN(4)]
		for name, call := range ofPlates() {
			if e, none := call(l); e != api.OK && !none {
				t.Fatalf("%s of %v: a result beside the error %d", name, l, e)
			}
		}
		x := api.BandEquivalent{Square: f(), Cosine: f()}
		if p, e := band.PlateOf(x); e != api.OK && p != (api.BandPlate{}) {
			t.Fatalf("%v: %v, %d", x, p, e)
		}
		a, b := f(), f()
		if y, e := band.QuarterAdmittance([]api.Frac{a, of(2, 1), b}[:r.IntN(4)], f()); e != api.OK && y != (api.Frac{}) {
			t.Fatalf("%v, %v: %v, %d", a, b, y, e)
		}
		if y, e := band.ReflectionOf(a, b); e != api.OK && y != (api.Frac{}) {
			t.Fatalf("%v, %v: %v, %d", a, b, y, e)
		}
	}
}

// copied returns a search that shares no memory with another one.
func copied(x api.BandSearch) api.BandSearch {
	x.Demands, x.Options = slices.Clone(x.Demands), slices.Clone(x.Options)
	return x
}

// R3: no function writes into its arguments, also where a list has room behind its end.
func TestArgumentsStay(t *testing.T) {
	r := draws(72)
	for range 150 {
		x := drawnSearch(r)
		x.Demands, x.Options = slices.Grow(x.Demands, 5), slices.Grow(x.Options, 5)
		task := api.BandTask{Demands: x.Demands, Layers: x.Options, On: x.On}
		before := copied(x)
		tree, indices, l := []int{1, 0, 0}, []api.Frac{of(2, 1), of(3, 2)}, []api.BandPlate{plain(2, 1, 2), plain(1, 1, 1)}
		d := api.BandDesign{Layers: []int{0}, Trees: [][]int{tree}, Refuted: broken(1)}
		for _, f := range onesOfTasks() {
			f.call(task, 0)
		}
		band.CheckTree(task, 0, tree)
		band.CheckTask(task)
		band.Answer(task)
		band.CheckSearch(x)
		band.LeastDesign(x)
		band.CheckDesign(x, d)
		band.QuarterAdmittance(indices, of(2, 1))
		for _, f := range ofPlates() {
			f(l)
		}
		if !reflect.DeepEqual(copied(x), before) || !slices.Equal(tree, []int{1, 0, 0}) || !slices.Equal(indices, []api.Frac{of(2, 1), of(3, 2)}) ||
			!slices.Equal(l, []api.BandPlate{plain(2, 1, 2), plain(1, 1, 1)}) || !slices.Equal(d.Layers, []int{0}) || !slices.Equal(d.Refuted, broken(1)) {
			t.Fatalf("%v: %v, %v, %v, %v, %v", before, x, tree, indices, l, d)
		}
	}
}

// R3: results share no memory with arguments, nor with each other.
func TestResultsApart(t *testing.T) {
	x, _ := twoLayers()
	x.Demands = append(x.Demands, x.Demands[1])
	want, _ := band.LeastDesign(x)
	d, e := band.LeastDesign(x)
	wantError(t, "a search", e, api.OK)
	for _, tree := range d.Trees {
		_ = append(tree, 9)
	}
	_, _, _ = append(d.Layers, 9), append(d.Trees, []int{9}), append(d.Refuted, api.BandPoint{Demand: 9})
	if !sameDesign(d, want) {
		t.Errorf("after appending: %v; want %v", d, want)
	}
	d.Layers[0], d.Refuted[0].Wave = 7, 7
	for _, tree := range d.Trees {
		tree[0]++
	}
	if again, _ := band.LeastDesign(x); !sameDesign(again, want) {
		t.Errorf("after writing: %v; want %v", again, want)
	}
	for i, tree := range d.Trees {
		if tree[0] != want.Trees[i][0]+1 {
			t.Errorf("the tree %d: %v, of %v", i, tree, want.Trees[i])
		}
	}
	task := asking(40000, quarter(), over(reflecting(0, 20), span(3950, 4050), just(0)), over(reflecting(0, 20), span(3950, 4050), just(0)))
	_, trees, _, _ := band.Answer(task)
	_ = append(trees[0], 9)
	trees[0][0] = 7
	if !slices.Equal(trees[1], []int{1, 0, 0}) {
		t.Errorf("the other tree: %v", trees[1])
	}
	wantAnswer(t, "again", task, api.AnswerYes, [][]int{{1, 0, 0}, {1, 0, 0}}, api.BandPoint{})
}

// R5: a nil list and an empty one are the same.
func TestEmptyLists(t *testing.T) {
	a, b := asking(15000, nil, reflecting(0, 500)), asking(15000, []api.LayerBox{}, reflecting(0, 500))
	wantAnswer(t, "no layers", a, api.AnswerYes, [][]int{{0}}, api.BandPoint{})
	wantAnswer(t, "an empty list of layers", b, api.AnswerYes, [][]int{{0}}, api.BandPoint{})
	for name, f := range ofPlates() {
		e, none := f(nil)
		errno, empty := f([]api.BandPlate{})
		if e != errno || none != empty {
			t.Errorf("%s: %d, %v; %d, %v", name, e, none, errno, empty)
		}
	}
	y, e := band.QuarterAdmittance([]api.Frac{}, of(3, 1))
	wantSame(t, "no quarter waves", y, e, of(3, 1), api.OK)
	x := choosing(10000, 3, quarters()...)
	for _, d := range []api.BandDesign{{Trees: [][]int{{0}}}, {Layers: []int{}, Trees: [][]int{{0}}, Refuted: []api.BandPoint{}}} {
		n, e := band.CheckDesign(x, d)
		wantSame(t, "no layers", n, e, 0, api.OK)
	}
}

// LANGUAGE, R4: results are the same in each call.
func TestSameAgain(t *testing.T) {
	r := draws(73)
	for range 200 {
		task := drawnTask(r)
		answer, trees, point, _ := band.Answer(task)
		wantAnswer(t, "again", task, answer, trees, point)
	}
}
