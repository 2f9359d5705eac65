package fit_test

import (
	"math"
	"math/rand/v2"
	"slices"
	"testing"

	"etalon/api"
	"etalon/fit"
)

// thickTask is a task of thicknesses from 0 to 9 with a reading that refutes all boxes, one that refutes none, and one
// that cannot be told.
func thickTask() api.FitTask {
	all := span(-one, one)
	return api.FitTask{Boxes: boxes(box(just(20000), span(0, 9))), On: on(40000), Readings: []api.Reading{
		reading(straight(), all, just(one), all), anything(straight()), reading(setting(4000, 80000, 5000), just(0), just(0), just(0)),
	}}
}

// The third reading of the task above cannot be told, whatever the thickness is.
func TestThickTask(t *testing.T) {
	x := thickTask()
	for thick := range 10 {
		got, e := fit.Predicted(setting(4000, 80000, 5000), boxes(box(just(20000), just(thick))), x.On)
		wantSame(t, "the third reading", got, e, [3]api.Range{}, api.ErrZero)
	}
}

// P7.5: Search, the chapter's examples and others.
func TestSearch(t *testing.T) {
	all := span(-one, one)
	refuting := reading(straight(), span(100, 200), all, all)
	second := thickTask()
	second.Readings = append([]api.Reading{second.Readings[1]}, second.Readings...)
	edge := task(boxes(box(span(14998, 15002), just(500))), reading(untold(), just(0), just(0), just(0)))
	for _, x := range []struct {
		name  string
		t     api.FitTask
		depth int
		want  []int
		errno api.Errno
	}{
		{"the chapter's second example", task(halfWave(), refuting), 12, []int{-2}, api.OK},
		{"the chapter's third example", task(halfWave(), reading(straight(), span(-10, 10), span(-1048576, -1048000), span(-10, 10))), 12, []int{-1}, api.OK},
		{"no readings", task(boxes(box(span(5000, 80000), span(0, 1000000)))), 12, []int{-1}, api.OK},
		{"single numbers", many(1), 12, []int{-1}, api.OK},
		{"two numbers", many(2), 12, []int{1, -1, -1}, api.OK},
		{"two numbers without a cut", many(2), 0, []int{-1}, api.OK},
		{"five numbers", many(5), 12, []int{1, 1, 1, -1, -1, -1, 1, -1, -1}, api.OK},
		{"five numbers with two cuts", many(5), 2, []int{1, 1, -1, -1, 1, -1, -1}, api.OK},
		{"five numbers with one cut", many(5), 1, []int{1, -1, -1}, api.OK},
		{"a reading that refutes all, at the depth 0", thickTask(), 0, []int{-2}, api.OK},
		{"a reading that refutes all", thickTask(), 12, []int{-2}, api.OK},
		{"the second reading refutes all", second, 12, []int{-3}, api.OK},
		{"the edge of total reflection", edge, 12, bookSearch(edge, 12), api.OK},
		{"a depth below 0", many(2), -1, nil, api.ErrRange},
		{"a depth beyond", many(2), 13, nil, api.ErrRange},
		{"the least depth", many(2), math.MinInt, nil, api.ErrRange},
		{"the greatest depth", many(2), math.MaxInt, nil, api.ErrRange},
		{"too many numbers", many(1001), 12, nil, api.ErrLarge},
		{"too many numbers at a wrong depth", many(1001), 13, nil, api.ErrRange},
		{"too many numbers at a depth that has them", many(1001), 10, nil, api.ErrLarge},
		{"many more than too many", many(1000000 - 1000), 11, nil, api.ErrLarge},
	} {
		tree, e := fit.Search(x.t, x.depth)
		wantSame(t, x.name, tree, e, x.want, x.errno)
	}
	// Just as many numbers as there may be, and a depth that has none too many.
	for _, x := range []struct{ thicknesses, depth, numbers int }{{1000, 10, 1999}, {1000, 12, 1999}, {999, 12, 1997}, {1001, 9, 1023}, {999000, 9, 1023}} {
		tree, e := fit.Search(many(x.thicknesses), x.depth)
		wantSame(t, "as many as there may be", len(tree), e, x.numbers, api.OK)
		wantSame(t, "by the book", tree, e, bookSearch(many(x.thicknesses), x.depth), api.OK)
	}
}

// P7.5: what is total reflection in one place and none in another one is cut until it can be told.
func TestSearchOverEdge(t *testing.T) {
	x := task(boxes(box(span(14900, 15100), just(500))), reading(untold(), just(0), just(0), just(0)))
	tree := must[[]int](t)(fit.Search(x, 12))
	wantAnswers(t, "uncut", x, -1, api.AnswerMaybe)
	kept := must[[][]api.LayerBox](t)(fit.Kept(x, tree))
	for _, l := range kept {
		if l[0].Index.Lo < 14990 || l[0].Index.Hi > 15010 {
			t.Errorf("kept: %v", l)
		}
	}
	_, refuted, e := fit.CheckTree(x, tree)
	wantError(t, "the tree", e, api.OK)
	wantSeen(t, "refuted boxes", refuted, 2)
	wantSeen(t, "kept boxes", len(kept), 1)
}

// drawnSearch returns a task and a depth that find trees of some numbers, some of them refuted, and layers that explain
// the readings of the task.
func drawnSearch(draw int) (api.FitTask, int, []api.Layer) {
	r := draws(uint64(draw))
	x, layers := drawnTask(r)
	if r.IntN(2) == 0 {
		// Known indices, and thicknesses that are told well.
		x.Boxes, layers = x.Boxes[:1], layers[:1]
		x.Boxes[0].Index, x.Boxes[0].Thick = just(layers[0].Index), span(layers[0].Thick, layers[0].Thick+r.IntN(400))
		for i, q := range x.Readings {
			at := api.FitSetting{Wave: q.Wave, At: q.At}
			if told, e := fit.Predicted(at, boxesOf(layers), x.On); e == api.OK {
				x.Readings[i] = readingOf(at, told, r.IntN(20000))
			}
		}
	}
	return x, r.IntN(8), layers
}

// P7.5: trees that are found, by the book; they are accepted, with their leaves.
func TestSearchByTheBook(t *testing.T) {
	var cuts, kept, refuted, explained int
	for i := range 500 {
		x, depth, _ := drawnSearch(5000 + i)
		want := bookSearch(x, depth)
		tree, e := fit.Search(x, depth)
		wantSame(t, "a tree", tree, e, want, api.OK)
		k, n, e := fit.CheckTree(x, tree)
		wantError(t, "its check", e, api.OK)
		wantSame(t, "a tree's leaves", [2]int{k, n}, e, leavesOf(tree), api.OK)
		if len(tree) > 1 {
			cuts++
		}
		if len(tree) > 1 && n > 0 {
			refuted++
		}
		if k > 0 && n > 0 {
			kept++
		}
		leaves, _ := bookLeaves(x, tree, 0)
		for _, l := range leaves {
			part := x
			part.Boxes = l.boxes
			if len(x.Readings) > 0 && l.number == -1 && bookExplains(part) == api.AnswerYes {
				explained++
			}
		}
	}
	t.Log(cuts, kept, refuted, explained)
	wantSeen(t, "trees with cuts", cuts, 300)
	wantSeen(t, "trees with refuted parts", refuted, 100)
	wantSeen(t, "trees with leaves of both kinds", kept, 100)
	wantSeen(t, "explained leaves", explained, 100)
}

// leavesOf returns how many leaves of a right tree are kept, and how many refuted.
func leavesOf(tree []int) (both [2]int) {
	for _, n := range tree {
		switch {
		case n == -1:
			both[0]++
		case n < -1:
			both[1]++
		}
	}
	return both
}

// P7.5: CheckTree, trees that are accepted and trees that are not.
func TestCheckTree(t *testing.T) {
	deep := slices.Repeat([]int{1, -1}, 4)
	for _, x := range []struct {
		name  string
		tree  []int
		want  [2]int
		errno api.Errno
	}{
		{"a kept leaf", []int{-1}, [2]int{1, 0}, api.OK},
		{"a refuted leaf", []int{-2}, [2]int{0, 1}, api.OK},
		{"the chapter's fourth example", []int{1, -1, -1}, [2]int{2, 0}, api.OK},
		{"leaves of both kinds", []int{1, -2, -1}, [2]int{1, 1}, api.OK},
		{"a deep tree", []int{1, 1, 1, 1, -1, -2, -1, -2, -1}, [2]int{3, 2}, api.OK},
		{"no numbers", nil, [2]int{}, api.ErrShape},
		{"an empty list", []int{}, [2]int{}, api.ErrShape},
		{"a cut alone", []int{1}, [2]int{}, api.ErrShape},
		{"one half", []int{1, -1}, [2]int{}, api.ErrShape},
		{"one half of a half", []int{1, 1, -1, -1}, [2]int{}, api.ErrShape},
		{"numbers left", []int{-1, -1}, [2]int{}, api.ErrShape},
		{"numbers left behind a refuted leaf", []int{-2, -2}, [2]int{}, api.ErrShape},
		{"numbers left behind a cut", []int{1, -1, -1, -1}, [2]int{}, api.ErrShape},
		{"numbers left that are wrong", []int{-1, 99}, [2]int{}, api.ErrShape},
		{"no such dimension", []int{2, -1, -1}, [2]int{}, api.ErrMissing},
		{"the greatest dimension", []int{math.MaxInt, -1, -1}, [2]int{}, api.ErrMissing},
		{"no such dimension, too early", []int{2}, [2]int{}, api.ErrMissing},
		{"no such reading", []int{-5}, [2]int{}, api.ErrMissing},
		{"the least number", []int{math.MinInt}, [2]int{}, api.ErrMissing},
		{"nearly the least number", []int{math.MinInt + 1}, [2]int{}, api.ErrMissing},
		{"no such reading, numbers left", []int{-5, -1}, [2]int{}, api.ErrMissing},
		{"a single number", []int{0, -1, -1}, [2]int{}, api.ErrBreak},
		{"a single number, too early", []int{0}, [2]int{}, api.ErrBreak},
		{"a single number behind cuts", []int{1, -1, 1, -1, 1, -1, 1, -1, -1}, [2]int{}, api.ErrBreak},
		{"a reading that explains", []int{-3}, [2]int{}, api.ErrProof},
		{"a reading that cannot be told", []int{-4}, [2]int{}, api.ErrProof},
		{"a reading that does not refute, numbers left", []int{-3, -1}, [2]int{}, api.ErrProof},
		{"a reading that does not refute, too early", []int{1, -3}, [2]int{}, api.ErrProof},
		{"too early ahead of what is wrong behind", []int{1, -1}, [2]int{}, api.ErrShape},
		{"a dimension ahead of a reading", []int{1, 2, -3}, [2]int{}, api.ErrMissing},
		{"a reading ahead of a dimension", []int{1, -3, 2}, [2]int{}, api.ErrProof},
		{"a break ahead of a dimension", []int{1, 0, 2}, [2]int{}, api.ErrBreak},
		{"2000 numbers", make([]int, 2000), [2]int{}, api.ErrBreak},
		{"2000 numbers of which most are left", slices.Repeat([]int{-1}, 2000), [2]int{}, api.ErrShape},
		{"2001 numbers", make([]int, 2001), [2]int{}, api.ErrLarge},
		{"2001 numbers, too early", slices.Repeat([]int{1}, 2001), [2]int{}, api.ErrLarge},
		{"cuts to a single number", append(deep, -1), [2]int{}, api.ErrBreak},
	} {
		kept, refuted, e := fit.CheckTree(thickTask(), x.tree)
		wantSame(t, x.name, [2]int{kept, refuted}, e, x.want, x.errno)
		if e := bookTree(thickTask(), x.tree); e != x.errno {
			t.Errorf("%s, by the book: %d", x.name, e)
		}
		if _, e := fit.Kept(thickTask(), x.tree); e != x.errno {
			t.Errorf("%s: Kept: %d", x.name, e)
		}
		at, e := fit.Where(thickTask(), x.tree, []api.Layer{film(20000, 10)})
		errno := x.errno
		if errno == api.OK {
			errno = api.ErrNone
		}
		wantSame(t, x.name+": Where", at, e, 0, errno)
	}
}

// P7.5: trees of any depth are accepted, also of more cuts than the search has, up to the greatest number of numbers.
func TestGreatTrees(t *testing.T) {
	full := must[[]int](t)(fit.Search(many(1000), 12))
	kept, refuted, e := fit.CheckTree(many(1000), full)
	wantSame(t, "1999 numbers", [2]int{kept, refuted}, e, [2]int{1000, 0}, api.OK)
	_, _, e = fit.CheckTree(many(1000), append(slices.Clone(full), -1))
	wantError(t, "2000 numbers", e, api.ErrShape)
	_, _, e = fit.CheckTree(many(1001), bookSearch(many(1001), 12))
	wantError(t, "2001 numbers", e, api.ErrLarge)
	// All cuts there can be along one side: 6 indices with 17 and 6 thicknesses with 20 of them.
	x := task(slices.Repeat(boxes(box(span(5000, 80000), span(0, 1000000))), 6))
	var tree []int
	for l := x.Boxes; ; {
		d, width := bookWidest(l)
		if width == 0 {
			break
		}
		l, _ = bookHalves(l, d)
		tree = append(tree, d)
	}
	tree = append(tree, slices.Repeat([]int{-1}, len(tree)+1)...)
	kept, refuted, e = fit.CheckTree(x, tree)
	wantSame(t, "a deep tree", [2]int{kept, refuted}, e, [2]int{len(tree)/2 + 1, 0}, api.OK)
	at, e := fit.Where(x, tree, slices.Repeat([]api.Layer{film(5000, 0)}, 6))
	wantSame(t, "its first leaf", at, e, len(tree)/2, api.OK)
	at, e = fit.Where(x, tree, slices.Repeat([]api.Layer{film(80000, 1000000)}, 6))
	wantSame(t, "its last leaf", at, e, len(tree)-1, api.OK)
	wantSeen(t, "cuts", len(tree)/2, 6*(16+19))
}

// changed returns a tree of which a number is changed, lost or added, or a leaf or a cut is another part.
func changed(r *rand.Rand, right []int) []int {
	tree := slices.Clone(right)
	place, number := r.IntN(len(tree)), r.IntN(16)-8
	switch r.IntN(4) {
	case 0:
		tree[place] = number
	case 1:
		tree = slices.Delete(tree, place, place+1)
	case 2:
		tree = slices.Insert(tree, place, number)
	default:
		tree = slices.Concat(tree[:place], []int{number, -1, -1}, tree[place+1:])
	}
	return tree
}

// P7.5: what becomes of a right tree when a number is changed, lost or added, by the book.
func TestCheckTreeByTheBook(t *testing.T) {
	r := draws(50)
	seen := map[api.Errno]int{}
	for i := range 200 {
		x, depth, _ := drawnSearch(10000 + i)
		right := bookSearch(x, min(depth, 4))
		for range 20 {
			tree := changed(r, right)
			want := bookTree(x, tree)
			kept, refuted, e := fit.CheckTree(x, tree)
			leaves := leavesOf(tree)
			if want != api.OK {
				leaves = [2]int{}
			}
			wantSame(t, "a tree", [2]int{kept, refuted}, e, leaves, want)
			seen[want]++
		}
	}
	t.Log(seen)
	for _, e := range []api.Errno{api.OK, api.ErrShape, api.ErrMissing, api.ErrBreak, api.ErrProof} {
		wantSeen(t, "an error", seen[e], 100)
	}
}

// P7.5: Kept returns the boxes of the kept leaves in their order.
func TestKept(t *testing.T) {
	thick := func(lo, hi int) []api.LayerBox { return boxes(box(just(20000), span(lo, hi))) }
	for _, x := range []struct {
		tree []int
		want [][]api.LayerBox
	}{
		{[]int{-1}, [][]api.LayerBox{thick(0, 9)}},
		{[]int{-2}, nil},
		{[]int{1, -2, -2}, nil},
		{[]int{1, -1, -1}, [][]api.LayerBox{thick(0, 4), thick(5, 9)}},
		{[]int{1, -2, -1}, [][]api.LayerBox{thick(5, 9)}},
		{[]int{1, 1, -1, -2, 1, -1, 1, -1, -2}, [][]api.LayerBox{thick(0, 2), thick(5, 7), thick(8, 8)}},
	} {
		got, e := fit.Kept(thickTask(), x.tree)
		wantSame(t, "kept", got, e, x.want, api.OK)
	}
	for i := range 300 {
		x, depth, _ := drawnSearch(15000 + i)
		tree := bookSearch(x, depth)
		var want [][]api.LayerBox
		leaves, _ := bookLeaves(x, tree, 0)
		for _, l := range leaves {
			if l.number == -1 {
				want = append(want, l.boxes)
			}
		}
		got, e := fit.Kept(x, tree)
		wantSame(t, "kept", got, e, want, api.OK)
	}
}

// P7.5: Where, the chapter's fourth example and others: on both sides of each cut, in kept and in refuted leaves.
func TestWhere(t *testing.T) {
	for _, x := range []struct {
		tree   []int
		layers []api.Layer
		want   int
		errno  api.Errno
	}{
		{[]int{1, -1, -1}, []api.Layer{film(20000, 5)}, 2, api.OK},
		{[]int{1, -1, -1}, []api.Layer{film(20000, 4)}, 1, api.OK},
		{[]int{1, -1, -1}, []api.Layer{film(20000, 0)}, 1, api.OK},
		{[]int{1, -1, -1}, []api.Layer{film(20000, 9)}, 2, api.OK},
		{[]int{1, -2, -2}, []api.Layer{film(20000, 4)}, 1, api.OK},
		{[]int{-1}, []api.Layer{film(20000, 9)}, 0, api.OK},
		{[]int{-2}, []api.Layer{film(20000, 0)}, 0, api.OK},
		{[]int{1, 1, -1, -2, 1, -1, 1, -1, -2}, []api.Layer{film(20000, 3)}, 3, api.OK},
		{[]int{1, 1, -1, -2, 1, -1, 1, -1, -2}, []api.Layer{film(20000, 8)}, 7, api.OK},
		{[]int{1, 1, -1, -2, 1, -1, 1, -1, -2}, []api.Layer{film(20000, 9)}, 8, api.OK},
		{[]int{-1}, []api.Layer{film(20000, 10)}, 0, api.ErrNone},
		{[]int{-1}, []api.Layer{film(20000, -1)}, 0, api.ErrNone},
		{[]int{-1}, []api.Layer{film(20001, 5)}, 0, api.ErrNone},
		{[]int{-1}, []api.Layer{{Index: 20000, Loss: 1, Thick: 5}}, 0, api.ErrNone},
		{[]int{-1}, nil, 0, api.ErrNone},
		{[]int{-1}, []api.Layer{}, 0, api.ErrNone},
		{[]int{-1}, []api.Layer{film(20000, 5), film(20000, 5)}, 0, api.ErrNone},
		{[]int{1, -1, -1}, []api.Layer{film(math.MinInt, math.MaxInt)}, 0, api.ErrNone},
		// The tree is wrong, wherever the layers lie.
		{[]int{1, -1}, []api.Layer{film(20000, 0)}, 0, api.ErrShape},
		{[]int{1, -1, -3}, []api.Layer{film(20000, 0)}, 0, api.ErrProof},
		{[]int{-1, -1}, []api.Layer{film(20000, 10)}, 0, api.ErrShape},
	} {
		got, e := fit.Where(thickTask(), x.tree, x.layers)
		wantSame(t, "where", got, e, x.want, x.errno)
	}
}
