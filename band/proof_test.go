package band_test

import (
	"math"
	"slices"
	"testing"

	"etalon/api"
	"etalon/band"
)

// P4.3: AnswerAt, the chapter's first example and the ends of demands.
func TestAnswerAt(t *testing.T) {
	bare, layered := asking(40000, nil), asking(40000, quarter())
	plain := piece(just(4000), just(0))
	edge := over(reflecting(0, 10000), just(4000), span(0, 9999))
	edge.Index = 20000
	mirror := asking(12000, nil, edge)
	for _, x := range []struct {
		name string
		t    api.BandTask
		d    api.BandDemand
		x    api.BandPiece
		want int
	}{
		{"a quarter wave", layered, reflecting(0, 100), plain, api.AnswerYes},
		{"a quarter wave, nothing at all", layered, reflecting(0, 0), plain, api.AnswerYes},
		{"a quarter wave, something", layered, reflecting(1, 10000), plain, api.AnswerNo},
		{"no layer", bare, reflecting(0, 100), plain, api.AnswerNo},
		{"no layer, about a bound below", bare, reflecting(3600, 10000), plain, api.AnswerMaybe},
		{"no layer, about a bound above", bare, reflecting(0, 3600), plain, api.AnswerMaybe},
		{"no layer, about both bounds", bare, reflecting(3600, 3600), plain, api.AnswerMaybe},
		{"no layer, above a bound", bare, reflecting(3599, 10000), plain, api.AnswerYes},
		{"no layer, below a bound", bare, reflecting(3601, 10000), plain, api.AnswerNo},
		{"in total reflection", mirror, edge, piece(just(4000), just(9000)), api.AnswerYes},
		{"over the edge of total reflection", mirror, edge, piece(just(4000), span(5000, 7000)), api.AnswerMaybe},
	} {
		x.t.Demands = []api.BandDemand{reflecting(5, 5), x.d}
		answer, e := band.AnswerAt(x.t, 1, x.x)
		wantSame(t, x.name, answer, e, x.want, api.OK)
		if book := bookAnswer(x.t, x.d, x.x); book != x.want {
			t.Errorf("%s, by the book: %d", x.name, book)
		}
	}
}

// P4.3: all three shares, and shares that just keep, or just break, their bounds.
func TestAnswerAtBounds(t *testing.T) {
	task := sampleTask()
	// With such a loss each share is surely above 0.
	task.Layers[1].Loss = 3000
	answer := func(share, least, most int) int {
		task.Demands[0].Share, task.Demands[0].Least, task.Demands[0].Most = share, least, most
		a, e := band.AnswerAt(task, 0, piece(just(5200), just(500)))
		wantError(t, "a right piece", e, api.OK)
		return a
	}
	for share := range 3 {
		task.Demands[0].Share = share
		s, _ := bookShare(task, task.Demands[0], piece(just(5200), just(500)))
		below, above := s.Lo*10000/api.One, -(-s.Hi * 10000 / api.One)
		if above == s.Hi*10000/api.One {
			above++
		}
		for _, x := range []struct{ least, most, want int }{
			{below, above, api.AnswerYes}, {0, above, api.AnswerYes}, {below, 10000, api.AnswerYes},
			{below + 1, 10000, api.AnswerMaybe}, {0, above - 1, api.AnswerMaybe}, {below + 1, above, api.AnswerMaybe},
			{above, 10000, api.AnswerNo}, {0, below, api.AnswerNo}, {above + 1, above + 1, api.AnswerNo}, {below, below, api.AnswerNo},
		} {
			if got := answer(share, x.least, x.most); got != x.want {
				t.Errorf("the share %d, %v, from %d to %d: %d; want %d", share, s, x.least, x.most, got, x.want)
			}
		}
	}
	// Shares that are bounds themselves: 0 and all light, whose ends are just reached.
	full := asking(40000, quarter(), reflecting(0, 0))
	for share, want := range map[[3]int]int{
		{0, 0, 0}: api.AnswerYes, {0, 1, 1}: api.AnswerNo, {1, 10000, 10000}: api.AnswerYes, {1, 0, 9999}: api.AnswerNo, {2, 0, 0}: api.AnswerYes,
		{2, 1, 10000}: api.AnswerNo,
	} {
		full.Demands[0].Share, full.Demands[0].Least, full.Demands[0].Most = share[0], share[1], share[2]
		a, e := band.AnswerAt(full, 0, piece(just(4000), just(0)))
		wantSame(t, "an exact share", a, e, want, api.OK)
	}
}

// P4.3: AnswerAt of any pieces, to the last part.
func TestAnswersAtByTheBook(t *testing.T) {
	r := draws(10)
	var seen [3]int
	for range 3500 {
		task := drawnTask(r)
		for i, d := range task.Demands {
			x := piece(drawnWithin(r, d.Wave), drawnWithin(r, d.Sine))
			want := bookAnswer(task, d, x)
			a, e := band.AnswerAt(task, i, x)
			wantSame(t, "a piece", a, e, want, api.OK)
			seen[want]++
		}
	}
	for _, n := range seen {
		wantSeen(t, "an answer", n, 300)
	}
}

// P4.3: what is no piece of a band.
func TestNoPieces(t *testing.T) {
	task := sampleTask()
	wave, sine := task.Demands[0].Wave, task.Demands[0].Sine
	for _, x := range []api.BandPiece{piece(wave, sine), piece(just(5000), just(900)), piece(span(5399, 5400), span(100, 101))} {
		_, e := band.AnswerAt(task, 0, x)
		wantError(t, "a piece", e, api.OK)
	}
	for x, errno := range map[api.BandPiece]api.Errno{
		piece(span(4999, 5400), sine):                 api.ErrRange,
		piece(span(5000, 5401), sine):                 api.ErrRange,
		piece(just(4999), sine):                       api.ErrRange,
		piece(just(5401), sine):                       api.ErrRange,
		piece(wave, span(99, 900)):                    api.ErrRange,
		piece(wave, span(100, 901)):                   api.ErrRange,
		piece(wave, just(0)):                          api.ErrRange,
		piece(span(math.MinInt, 5400), sine):          api.ErrRange,
		piece(span(5000, math.MaxInt), sine):          api.ErrRange,
		piece(wave, span(math.MinInt, math.MaxInt)):   api.ErrRange,
		piece(span(math.MaxInt, math.MinInt), sine):   api.ErrRange,
		piece(span(5401, 5400), sine):                 api.ErrRange,
		piece(span(5000, 4999), sine):                 api.ErrRange,
		piece(span(5001, 5000), sine):                 api.ErrOrder,
		piece(span(5400, 5000), sine):                 api.ErrOrder,
		piece(wave, span(900, 100)):                   api.ErrOrder,
		piece(wave, span(101, 100)):                   api.ErrOrder,
		piece(span(5400, 5000), span(900, 901)):       api.ErrRange,
		piece(span(5400, 5000), span(900, 100)):       api.ErrOrder,
		piece(span(5400, 5000), span(0, math.MinInt)): api.ErrRange,
		{}: api.ErrRange,
	} {
		a, e := band.AnswerAt(task, 0, x)
		wantSame(t, "no piece", a, e, 0, errno)
	}
}

// P4.3: CheckPoint.
func TestCheckPoint(t *testing.T) {
	bare := asking(40000, nil, reflecting(0, 4000), reflecting(0, 100), over(reflecting(3600, 3600), span(4000, 4100), span(0, 5)))
	for p, errno := range map[api.BandPoint]api.Errno{
		{Demand: 1, Wave: 4000}:                           api.OK,
		{Demand: 0, Wave: 4000}:                           api.ErrProof,
		{Demand: 2, Wave: 4050, Sine: 3}:                  api.ErrProof,
		{Demand: 1, Wave: 3999}:                           api.ErrRange,
		{Demand: 1, Wave: 4001}:                           api.ErrRange,
		{Demand: 1, Wave: 4000, Sine: 1}:                  api.ErrRange,
		{Demand: 1, Wave: 4000, Sine: -1}:                 api.ErrRange,
		{Demand: 0, Wave: 4001}:                           api.ErrRange,
		{Demand: 2, Wave: 4101, Sine: 3}:                  api.ErrRange,
		{Demand: 2, Wave: 4000, Sine: 6}:                  api.ErrRange,
		{Demand: 1, Wave: math.MinInt, Sine: math.MaxInt}: api.ErrRange,
		{Demand: 3, Wave: 4000}:                           api.ErrMissing,
		{Demand: -1, Wave: math.MinInt}:                   api.ErrMissing,
		{Demand: math.MaxInt, Wave: 4000}:                 api.ErrMissing,
		{}:                                                api.ErrRange,
	} {
		wantError(t, "a point", band.CheckPoint(bare, p), errno)
	}
	// A point refutes whatever layers of the boxes there are: so it must be broken for all of them.
	box := api.LayerBox{Index: span(20000, 20100), Thick: span(0, 500)}
	wide := asking(40000, []api.LayerBox{box}, reflecting(0, 100))
	wantError(t, "some layers of the box", band.CheckPoint(wide, api.BandPoint{Wave: 4000}), api.ErrProof)
	wide.Layers[0].Thick = span(0, 20)
	wantError(t, "all layers of the box", band.CheckPoint(wide, api.BandPoint{Wave: 4000}), api.OK)
}

// split is a task with a tree of two pieces for its second demand: on the whole band at once it is not kept.
func split() api.BandTask {
	return asking(40000, quarter(), reflecting(0, 0), over(reflecting(0, 20), span(3950, 4050), just(0)))
}

// P4.3: CheckTree, trees that prove their demands.
func TestCheckTree(t *testing.T) {
	// The second demand of this task is kept on each piece, whatever the pieces are.
	free := asking(40000, quarter(), reflecting(0, 0), over(reflecting(0, 10000), span(4000, 4064), span(0, 64)))
	// All nodes of this tree cut as often as may be: 31 of them, and 32 pieces.
	full := func(cut func(depth int) int) []int {
		var grow func(depth int) []int
		grow = func(depth int) []int {
			if depth == 5 {
				return []int{0}
			}
			half := grow(depth + 1)
			return slices.Concat([]int{cut(depth)}, half, half)
		}
		return grow(0)
	}
	for _, x := range []struct {
		name   string
		t      api.BandTask
		demand int
		tree   []int
		want   int
	}{
		{"a single piece", split(), 0, []int{0}, 1},
		{"two pieces", split(), 1, []int{1, 0, 0}, 2},
		{"four pieces", split(), 1, []int{1, 1, 0, 0, 1, 0, 0}, 4},
		{"the first half halved", split(), 1, []int{1, 1, 0, 0, 0}, 3},
		{"the second half halved", split(), 1, []int{1, 0, 1, 0, 0}, 3},
		{"sines", free, 1, []int{2, 0, 0}, 2},
		{"sines, then wavelengths", free, 1, []int{2, 1, 0, 0, 2, 0, 0}, 4},
		{"five cuts, one behind the other", free, 1, []int{1, 1, 1, 1, 1, 0, 0, 0, 0, 0, 0}, 6},
		{"five cuts of the last halves", free, 1, []int{2, 0, 2, 0, 2, 0, 2, 0, 2, 0, 0}, 6},
		{"all wavelengths", free, 1, full(func(int) int { return 1 }), 32},
		{"all sines", free, 1, full(func(int) int { return 2 }), 32},
		{"all of both", free, 1, full(func(depth int) int { return 1 + depth%2 }), 32},
	} {
		pieces, e := band.CheckTree(x.t, x.demand, x.tree)
		wantSame(t, x.name, pieces, e, x.want, api.OK)
	}
	if tree := full(func(int) int { return 1 }); len(tree) != api.MaxBandTree {
		t.Errorf("the largest tree has %d nodes", len(tree))
	}
}

// P4.3: CheckTree, trees that it refuses.
func TestCheckTreeRefuses(t *testing.T) {
	free := asking(40000, quarter(), reflecting(0, 0), over(reflecting(0, 10000), span(4000, 4064), span(0, 64)))
	few := func(waves, sines int) api.BandTask {
		return asking(40000, quarter(), reflecting(0, 0), over(reflecting(0, 10000), span(4000, 4000+waves), span(0, sines)))
	}
	one := asking(40000, quarter(), reflecting(0, 0), over(reflecting(0, 20), span(3950, 4000), just(0)))
	for _, x := range []struct {
		name   string
		t      api.BandTask
		tree   []int
		number int
		errno  api.Errno
	}{
		{"no nodes", free, nil, 0, api.ErrShape},
		{"an empty list of nodes", free, []int{}, 0, api.ErrShape},
		{"no halves", free, []int{1}, 0, api.ErrShape},
		{"no second half", free, []int{1, 0}, 0, api.ErrShape},
		{"no second half of a half", free, []int{1, 0, 2, 0}, 0, api.ErrShape},
		{"a node is left", free, []int{0, 0}, 0, api.ErrShape},
		{"nodes are left", free, []int{1, 0, 0, 0}, 0, api.ErrShape},
		{"a wrong node is left", free, []int{0, 9}, 0, api.ErrShape},
		{"a kind above", free, []int{3}, 0, api.ErrKind},
		{"a kind below", free, []int{-1}, 0, api.ErrKind},
		{"the greatest kind", free, []int{1, 0, math.MaxInt}, 0, api.ErrKind},
		{"the least kind", free, []int{1, math.MinInt}, 0, api.ErrKind},
		{"63 nodes, some of them left", free, make([]int, 63), 0, api.ErrShape},
		{"64 nodes", free, make([]int, 64), 0, api.ErrLarge},
		{"64 nodes that are none", free, slices.Repeat([]int{7}, 64), 0, api.ErrLarge},
		{"six cuts", free, []int{1, 1, 1, 1, 1, 1, 0, 0, 0, 0, 0, 0, 0}, 0, api.ErrLarge},
		{"six cuts of both kinds", free, []int{1, 2, 1, 2, 1, 2}, 0, api.ErrLarge},
		{"six cuts of the last halves", free, []int{1, 0, 2, 0, 1, 0, 2, 0, 1, 0, 2}, 0, api.ErrLarge},
		{"six cuts of what cannot be halved", few(32, 0), []int{1, 1, 1, 1, 1, 1}, 0, api.ErrLarge},
		{"six cuts of what could not be halved at all", few(32, 0), []int{1, 1, 1, 1, 1, 2}, 0, api.ErrLarge},
		{"five cuts of 17 numbers", few(16, 0), []int{1, 1, 1, 1, 1}, 0, api.ErrBreak},
		{"one wavelength", few(0, 5), []int{1, 0, 0}, 0, api.ErrBreak},
		{"one sine", few(5, 0), []int{2, 0, 0}, 0, api.ErrBreak},
		{"two wavelengths", few(1, 5), []int{1, 0, 0}, 0, api.ErrBreak},
		{"two sines", few(5, 1), []int{2, 0, 0}, 0, api.ErrBreak},
		{"three wavelengths, halved twice", few(2, 0), []int{1, 1, 0, 0, 0}, 0, api.ErrBreak},
		{"three wavelengths, the last half", few(2, 0), []int{1, 0, 1, 0, 0}, 0, api.ErrBreak},
		{"the last half is not there", few(5, 5), []int{1, 0}, 0, api.ErrShape},
		{"not kept at once", split(), []int{0}, 0, api.ErrProof},
		{"not kept at once, nodes are left", split(), []int{0, 0}, 0, api.ErrProof},
		{"not kept in the first half", asking(40000, nil, reflecting(0, 0), over(reflecting(0, 100), span(3950, 4050), just(0))), []int{1, 0, 0}, 1, api.ErrProof},
		{"not kept in the second half", asking(40000, quarter(), reflecting(0, 0), over(reflecting(0, 20), span(3950, 4150), just(0))), []int{1, 1, 0, 0, 0}, 4, api.ErrProof},
		{"not kept ahead of a wrong node", asking(40000, nil, reflecting(0, 0), over(reflecting(0, 100), span(3950, 4050), just(0))), []int{1, 0, 9}, 1, api.ErrProof},
		{"a wrong node ahead of what is not kept", asking(40000, quarter(), reflecting(0, 0), over(reflecting(0, 20), span(3950, 4150), just(0))), []int{1, 9, 0}, 0, api.ErrKind},
		{"the last piece of all", asking(40000, quarter(), reflecting(0, 0), over(reflecting(0, 20), span(3950, 4200), just(0))), []int{1, 1, 0, 1, 0, 0, 1, 0, 0}, 7, api.ErrProof},
	} {
		number, e := band.CheckTree(x.t, 1, x.tree)
		wantSame(t, x.name, number, e, x.number, x.errno)
	}
	number, e := band.CheckTree(one, 1, []int{1, 0, 0})
	wantSame(t, "half of the band", number, e, 2, api.OK)
}

// bookTree checks a tree by cutting it into the trees of its halves.
func bookTree(t api.BandTask, d api.BandDemand, x api.BandPiece, cuts int, tree []int) (rest []int, pieces int, errno api.Errno) {
	if len(tree) == 0 {
		return nil, 0, api.ErrShape
	}
	node, rest := tree[0], tree[1:]
	first, second := x, x
	switch node {
	case 0:
		if bookAnswer(t, d, x) != api.AnswerYes {
			return tree, 0, api.ErrProof
		}
		return rest, 1, api.OK
	case 1:
		first.Wave.Hi, second.Wave.Lo = middle(x.Wave), middle(x.Wave)
	case 2:
		first.Sine.Hi, second.Sine.Lo = middle(x.Sine), middle(x.Sine)
	default:
		return nil, 0, api.ErrKind
	}
	if cuts == 5 {
		return nil, 0, api.ErrLarge
	}
	if r := [3]api.Range{{}, x.Wave, x.Sine}[node]; r.Hi-r.Lo+1 < 3 {
		return nil, 0, api.ErrBreak
	}
	for _, half := range []api.BandPiece{first, second} {
		var more int
		if rest, more, errno = bookTree(t, d, half, cuts+1, rest); errno != api.OK {
			return rest, 0, errno
		}
		pieces += more
	}
	return rest, pieces, api.OK
}

// drawnTree returns nodes that are, mostly, a tree.
func drawnTree(r interface{ IntN(int) int }, depth int) []int {
	if r.IntN(40) == 0 {
		return []int{r.IntN(5) - 1}
	}
	if depth == 0 || r.IntN(3) == 0 {
		return []int{0}
	}
	return slices.Concat([]int{1 + r.IntN(2)}, drawnTree(r, depth-1), drawnTree(r, depth-1))
}

// P4.3: trees of any nodes.
func TestCheckTreesByTheBook(t *testing.T) {
	r := draws(11)
	seen := map[api.Errno]int{}
	for range 2500 {
		task := drawnTask(r)
		d := task.Demands[0]
		for range 4 {
			tree := drawnTree(r, 1+r.IntN(7))
			if r.IntN(20) == 0 {
				tree = append(tree, 0)
			}
			rest, want, errno := bookTree(task, d, piece(d.Wave, d.Sine), 0, tree)
			switch {
			case len(tree) > 63:
				want, errno = 0, api.ErrLarge
			case errno == api.ErrProof:
				want = len(tree) - len(rest)
			case errno == api.OK && len(rest) > 0:
				want, errno = 0, api.ErrShape
			}
			got, e := band.CheckTree(task, 0, tree)
			wantSame(t, "a tree", got, e, want, errno)
			seen[e]++
		}
	}
	for _, e := range []api.Errno{api.OK, api.ErrShape, api.ErrKind, api.ErrLarge, api.ErrBreak, api.ErrProof} {
		wantSeen(t, "an error of a tree", seen[e], 30)
	}
}
