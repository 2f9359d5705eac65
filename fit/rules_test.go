package fit_test

import (
	"math"
	"math/rand/v2"
	"reflect"
	"slices"
	"strings"
	"testing"

	"etalon/api"
	"etalon/fit"
)

// odd returns ints at all kinds of ends.
func odd(r *rand.Rand) func() int {
	l := []int{
		math.MinInt, math.MinInt + 1, -1 << 32, -one - 1, -one, -1001, -1000, -21, -3, -2, -1, 0, 1, 2, 3, 5, 11, 12, 13, 999, 1000, 1001, 4000, 4999, 5000, 9999, 10000,
		80000, 80001, 200000, 200001, 1000000, one, one + 1, 1 << 32, math.MaxInt - 1, math.MaxInt,
	}
	return func() int { return l[r.IntN(len(l))] }
}

// oddBoxes returns boxes of any numbers.
func oddBoxes(r *rand.Rand) []api.LayerBox {
	n, l := odd(r), drawnBoxes(r)
	switch r.IntN(6) {
	case 0:
		l[r.IntN(len(l))] = api.LayerBox{Index: span(n(), n()), Thick: span(n(), n()), Loss: n()}
	case 1:
		l[0].Thick = span(n(), n())
	case 2:
		l[0].Index = span(n(), n())
	case 3:
		l = slices.Repeat(l, r.IntN(8))
	}
	return l
}

// oddTask returns a task of any numbers.
func oddTask(r *rand.Rand) api.FitTask {
	n := odd(r)
	x, _ := drawnTask(r)
	if r.IntN(3) == 0 {
		x.Boxes = oddBoxes(r)
	}
	if r.IntN(4) == 0 {
		x.On = api.Substrate{Index: n(), Loss: n()}
	}
	if r.IntN(4) == 0 {
		x.Readings = append(x.Readings, reading(setting(n(), n(), n()), span(n(), n()), span(n(), n()), span(n(), n())))
	}
	return x
}

// R2: no arguments make a function panic, and beside an error stands the zero value.
func TestNoPanic(t *testing.T) {
	r := draws(90)
	n := odd(r)
	for range 8000 {
		x, l := oddTask(r), oddBoxes(r)
		q := [2]api.FitSetting{drawnSetting(r), setting(n(), n(), n())}[r.IntN(2)]
		tree, layers := []int{n(), n(), n(), n(), -1}[r.IntN(5):], []api.Layer{film(n(), n()), {}}[r.IntN(3)/2:]
		fit.CheckTask(x)
		wantNone[[3]api.Range](t, "Predicted")(fit.Predicted(q, l, x.On))
		wantNone[int](t, "Refuting")(fit.Refuting(x))
		wantNone[int](t, "Explains")(fit.Explains(x))
		wantNone[[2][]api.LayerBox](t, "CutOf")(fit.CutOf(l, n()))
		wantNone[int](t, "Widest")(fit.Widest(l))
		wantNone[[]int](t, "Search")(fit.Search(x, min(n(), 2)))
		kept, refuted, e := fit.CheckTree(x, tree)
		wantNone[[2]int](t, "CheckTree")([2]int{kept, refuted}, e)
		wantNone[[][]api.LayerBox](t, "Kept")(fit.Kept(x, tree))
		wantNone[int](t, "Where")(fit.Where(x, tree, layers))
		wantNone[[]api.LayerBox](t, "HullOf")(fit.HullOf([][]api.LayerBox{l, x.Boxes, nil}[:r.IntN(4)]))
		wantNone[bool](t, "Has")(fit.Has(l, layers))
		pair := [2][]api.LayerBox{l, x.Boxes}
		wantNone[int](t, "Tells")(fit.Tells(q, pair, x.On))
		wantNone[int](t, "FirstTelling")(fit.FirstTelling([]api.FitSetting{drawnSetting(r), q}[:r.IntN(3)], pair, x.On))
		rows, values := [][2]int{{n(), n()}, {r.IntN(9), n()}, {n(), 5}}[:r.IntN(4)], []int{n(), 3, n()}[:r.IntN(4)]
		wantNone[[2]api.Frac](t, "SmallChange")(fit.SmallChange(rows, values))
		wantNone[[]api.Frac](t, "Misses")(fit.Misses(rows, values))
		wantNone[[]int](t, "ParseTree")(fit.ParseTree(fit.FormatTree(tree)))
	}
}

// R2: no bytes make ParseTree panic.
func TestNoPanicOfTexts(t *testing.T) {
	r := draws(91)
	pieces := []string{" ", "-", "0", "1", "12", "9999", "\n", "\x00", "\xff", "+", "é"}
	for range 50000 {
		var s strings.Builder
		for range r.IntN(8) {
			s.WriteString(pieces[r.IntN(len(pieces))])
		}
		tree, e := fit.ParseTree(s.String())
		if e == api.OK && fit.FormatTree(tree) != s.String() || e != api.OK && (e != api.ErrSyntax || tree != nil) {
			t.Fatalf("%q: %v, %d", s.String(), tree, e)
		}
	}
}

// R3: no function writes into its arguments, also where a list has room behind its end.
func TestArgumentsStay(t *testing.T) {
	for i := range 60 {
		x, depth, layers := drawnSearch(50000 + i)
		x.Boxes, x.Readings, layers = slices.Grow(x.Boxes, 5), slices.Grow(x.Readings, 5), slices.Grow(layers, 5)
		list := slices.Grow([][]api.LayerBox{slices.Grow(drawnBoxes(draws(uint64(i))), 5), x.Boxes}, 5)
		first := slices.Clone(list[0])
		tree := slices.Grow(must[[]int](t)(fit.Search(x, depth)), 5)
		settings := slices.Grow([]api.FitSetting{straight(), untold()}, 5)
		c := rightChanges()
		before := []any{slices.Clone(x.Boxes), slices.Clone(x.Readings), x.On, slices.Clone(layers), slices.Clone(tree), slices.Clone(settings), rightChanges(), first, len(list)}
		pair := [2][]api.LayerBox{list[0], x.Boxes}
		fit.CheckTask(x)
		fit.Predicted(straight(), x.Boxes, x.On)
		fit.Refuting(x)
		fit.Explains(x)
		for d := range 2 * len(x.Boxes) {
			fit.CutOf(x.Boxes, d)
		}
		fit.Widest(x.Boxes)
		fit.Search(x, depth)
		fit.CheckTree(x, tree)
		fit.Kept(x, tree)
		fit.Where(x, tree, layers)
		fit.HullOf(list)
		fit.HullOf([][]api.LayerBox{x.Boxes, slices.Clone(x.Boxes)})
		fit.Has(x.Boxes, layers)
		fit.Tells(straight(), pair, x.On)
		fit.FirstTelling(settings, pair, x.On)
		fit.SmallChange(c.rows, c.values)
		fit.Misses(c.rows, c.values)
		fit.FormatTree(tree)
		after := []any{x.Boxes, x.Readings, x.On, layers, tree, settings, c, list[0], len(list)}
		if !reflect.DeepEqual(after, before) {
			t.Fatalf("%v; before %v", after, before)
		}
	}
}

// scribble writes into boxes and behind their end.
func scribble(l []api.LayerBox) {
	_ = append(l, api.LayerBox{Loss: 7})
	for i := range l {
		l[i].Loss = 7777
	}
}

// R3: results share no memory with arguments, nor with each other.
func TestResultsApart(t *testing.T) {
	x := thickTask()
	for _, tree := range [][]int{{-1}, {1, -1, -1}, {1, 1, -1, -1, -1}} {
		want := must[[][]api.LayerBox](t)(fit.Kept(x, tree))
		for i := range want {
			kept := must[[][]api.LayerBox](t)(fit.Kept(x, tree))
			scribble(kept[i])
			_ = append(kept[:i], boxes())
			for j, l := range must[[][]api.LayerBox](t)(fit.Kept(x, tree)) {
				wantSame(t, "again", l, api.OK, want[j], api.OK)
			}
		}
		kept := must[[][]api.LayerBox](t)(fit.Kept(x, tree))
		scribble(kept[0])
		wantSame(t, "the others", kept[1:], api.OK, want[1:], api.OK)
	}
	halves := must[[2][]api.LayerBox](t)(fit.CutOf(x.Boxes, 1))
	scribble(halves[0])
	wantSame(t, "the other half", halves[1], api.OK, boxes(box(just(20000), span(5, 9))), api.OK)
	scribble(halves[1])
	list := [][]api.LayerBox{x.Boxes, x.Boxes}
	scribble(must[[]api.LayerBox](t)(fit.HullOf(list)))
	scribble(must[[]api.LayerBox](t)(fit.HullOf(list[:1])))
	wantSame(t, "the task", x, api.OK, thickTask(), api.OK)
	tree := must[[]int](t)(fit.Search(many(3), 12))
	tree[0] = 7
	wantSame(t, "the tree again", must[[]int](t)(fit.Search(many(3), 12)), api.OK, []int{1, 1, -1, -1, -1}, api.OK)
	c := rightChanges()
	misses := must[[]api.Frac](t)(fit.Misses(c.rows, c.values))
	misses[0].Num = 7
	wantSame(t, "the changes", c, api.OK, rightChanges(), api.OK)
}

// R5: a nil list and an empty one are the same.
func TestEmptyLists(t *testing.T) {
	for _, x := range []api.FitTask{{}, {Boxes: boxes(), Readings: []api.Reading{}}} {
		n, e := fit.CheckTask(x)
		wantSame(t, "nothing", n, e, 0, api.ErrShape)
	}
	for _, readings := range [][]api.Reading{nil, {}} {
		x := task(halfWave(), readings...)
		wantAnswers(t, "no readings", x, -1, api.AnswerYes)
		for _, tree := range [][]int{nil, {}} {
			_, _, e := fit.CheckTree(x, tree)
			wantError(t, "no tree", e, api.ErrShape)
			if s := fit.FormatTree(tree); s != "" {
				t.Errorf("no tree: %q", s)
			}
		}
	}
	for _, rows := range [][][2]int{nil, {}} {
		for _, values := range [][]int{nil, {}} {
			_, e := fit.SmallChange(rows, values)
			wantError(t, "no rows", e, api.ErrShape)
			_, e = fit.Misses(rows, values)
			wantError(t, "no rows", e, api.ErrShape)
		}
	}
}

// LANGUAGE, R4: results are the same in each call.
func TestSameAgain(t *testing.T) {
	for i := range 100 {
		x, depth, _ := drawnSearch(60000 + i)
		tree := must[[]int](t)(fit.Search(x, depth))
		again := must[[]int](t)(fit.Search(x, depth))
		wantSame(t, "a tree", again, api.OK, tree, api.OK)
	}
}
