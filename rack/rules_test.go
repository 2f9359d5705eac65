package rack_test

import (
	"math"
	"math/rand/v2"
	"reflect"
	"slices"
	"testing"

	"etalon/api"
	"etalon/rack"
)

// odd returns ints at all kinds of ends.
func odd(r *rand.Rand) func() int {
	l := []int{
		math.MinInt, math.MinInt + 1, -1 << 32, -mostDen, -1000001, -101, -2, -1, 0, 1, 2, 3, 4, 5, 7, 8, 9, 11, 12, 13, 23, 24, 25, 99, 100, 101,
		1000000, 1000001, 500000000, 500000001, 1 << 32, mostDen, mostDen + 1, math.MaxInt - 1, math.MaxInt,
	}
	return func() int { return l[r.IntN(len(l))] }
}

// oddList returns a list of such ints, and of small ones.
func oddList(r *rand.Rand, most int) []int {
	n := odd(r)
	var l []int
	for range r.IntN(most + 1) {
		if r.IntN(6) == 0 {
			l = append(l, n())
		} else {
			l = append(l, r.IntN(4))
		}
	}
	return l
}

// oddTable returns a table of such lists.
func oddTable(r *rand.Rand, most int) [][]int {
	var table [][]int
	for range r.IntN(most + 1) {
		table = append(table, oddList(r, most))
	}
	return table
}

// R2: no racks, flows and steps make a function panic, and beside an error stands the zero value.
func TestNoPanicOfRacks(t *testing.T) {
	r := draws(90)
	n := odd(r)
	for range 30000 {
		x := drawnRack(r)
		flow, part, blades := drawnFlow(r, x), drawnPart(r, x), drawnTable(r, 1, x.Stations, 2)[0]
		switch r.IntN(6) {
		case 0:
			x = rackOf(n(), n(), n(), n())
		case 1:
			flow = oddTable(r, 4)
		case 2:
			flow[r.IntN(len(flow))] = oddList(r, 12)
		case 3:
			part[r.IntN(2)] = n()
		case 4:
			blades[r.IntN(len(blades))] = n()
		}
		rack.CheckRack(x)
		rack.CheckFlow(x, flow)
		wantNone[[2]int](t, "PlaceAt")(rack.PlaceAt(x, part, n()))
		wantNone[int](t, "Period")(rack.Period(x))
		wantNone[[][]int](t, "Visits")(rack.Visits(x, part, n()))
		wantNone[int](t, "Thickness")(rack.Thickness(x, flow, api.RackAsk{Part: part, Steps: n()}))
		wantNone[int](t, "StepsFor")(rack.StepsFor(x, flow, api.RackWish{Part: part, Thick: n()}))
		wantNone[api.Frac](t, "Spread")(rack.Spread(oddList(r, 4)))
		wantNone[[][]int](t, "TableOf")(rack.TableOf(x, flow, blades))
		wantNone[[][]int](t, "TableOf")(rack.TableOf(x, flow, oddList(r, 30)))
		if r.IntN(10) == 0 {
			wantNone[[][]int](t, "AllThick")(rack.AllThick(x, flow, n()))
		}
	}
}

// R2: no tasks, masks and weights make a function panic, and beside an error stands the zero value.
func TestNoPanicOfMasks(t *testing.T) {
	r := draws(91)
	n := odd(r)
	for range 20000 {
		x := drawnTask(r)
		switch r.IntN(4) {
		case 0:
			x.Table = oddTable(r, 4)
		case 1:
			x.Slack = api.Frac{Num: n(), Den: n()}
		case 2:
			row := x.Table[r.IntN(len(x.Table))]
			row[r.IntN(len(row))] = n()
		}
		rack.CheckTask(x)
		m := mask(n(), oddList(r, 3)...)
		w := weights(n(), oddList(r, 6), oddList(r, 6), oddList(r, 3))
		if r.IntN(2) == 0 {
			m.Open = make([]int, 3)
			w = weights(n(), []int{n(), n()}, []int{n(), n()}, []int{n(), n()})
		}
		wantNone[[2]int](t, "CheckMask")(rack.CheckMask(x, m))
		wantNone[[2]int](t, "CheckWeights")(rack.CheckWeights(x, w))
		if r.IntN(4) == 0 {
			best, proof, value, e := rack.BestMask(x)
			wantNone[api.RackMask](t, "BestMask")(best, e)
			wantNone[api.MaskWeights](t, "its weights")(proof, e)
			wantNone[[2]int](t, "its value")(value, e)
		}
	}
}

// R2: no loads, histories and events make a function panic, and beside an error stands the zero value.
func TestNoPanicOfLoads(t *testing.T) {
	r := draws(92)
	n := odd(r)
	names := append(wrongNames(), "p0", "p1", "b0")
	for range 20000 {
		l := drawnLoad(r, 6, 2)
		switch r.IntN(4) {
		case 0:
			l.Places = n()
		case 1:
			l.Parts = append(l.Parts, api.RackPart{Name: names[r.IntN(len(names))], Fits: oddList(r, 4)})
		}
		wantNumber := wantNone[int]
		rack.CheckLoad(l)
		wantNumber(t, "CheckPlaces")(rack.CheckPlaces(l, oddList(r, 6)))
		wantNumber(t, "CheckCover")(rack.CheckCover(l, cover(oddList(r, 4), oddList(r, 4))))
		places, c, count, e := rack.BestLoad(l)
		wantNone[[]int](t, "BestLoad")(places, e)
		wantNone[api.LoadCover](t, "its cover")(c, e)
		wantNumber(t, "its number")(count, e)
		h := drawnHistory(r)
		x := api.PartEvent{Kind: r.IntN(4), Part: names[r.IntN(len(names))], Batch: names[r.IntN(len(names))]}
		if r.IntN(2) == 0 {
			x.Kind = n()
		}
		h = append(h, x)
		rack.CheckHistory(h)
		wantNone[api.PartState](t, "StateOf")(rack.StateOf(h, x.Part))
		wantNone[[]string](t, "BatchOf")(rack.BatchOf(h, x.Batch))
		wantNone[[]string](t, "WitnessesOf")(rack.WitnessesOf(h, x.Part))
		wantNone[api.PartEvent](t, "ParseEvent")(rack.ParseEvent(rack.FormatEvent(x)))
	}
}

// roomy returns a list with room behind its end.
func roomy[T any](l []T) []T {
	var zero T
	all := append(slices.Clone(l), zero, zero, zero)
	return all[:len(l)]
}

// roomyTable returns a table whose rows have room behind their ends.
func roomyTable(table [][]int) [][]int {
	var all [][]int
	for _, row := range table {
		all = append(all, roomy(row))
	}
	return roomy(all)
}

// arguments is one argument of each kind.
type arguments struct {
	flow          [][]int
	blades, thick []int
	task          api.MaskTask
	mask          api.RackMask
	weights       api.MaskWeights
	load          api.RackLoad
	places        []int
	cover         api.LoadCover
	history       []api.PartEvent
}

// anyArguments returns right arguments, whose lists have room behind their ends.
func anyArguments() arguments {
	l := api.RackLoad{Places: 2}
	for _, p := range plainLoad().Parts {
		l.Parts = append(l.Parts, api.RackPart{Name: p.Name, Fits: roomy(p.Fits)})
	}
	l.Parts = roomy(l.Parts)
	return arguments{
		flow:    roomyTable(plainFlow()),
		blades:  roomy([]int{2, 0, 1, 0}),
		thick:   roomy([]int{15, 5, 10}),
		task:    api.MaskTask{Table: roomyTable([][]int{{4, 0}, {0, 2}}), Slack: api.Frac{Num: 0, Den: 1}},
		mask:    mask(2, roomy([]int{1, 2})...),
		weights: weights(1, roomy([]int{0, 1}), roomy([]int{0, 0}), roomy([]int{0, 2})),
		load:    l,
		places:  roomy([]int{0, -1, 1}),
		cover:   cover(roomy([]int{2}), roomy([]int{0})),
		history: roomy(busy()),
	}
}

// behind returns a list with what stands in the room behind its end.
func behind[T any](l []T) []T { return l[:cap(l)] }

// behindTable returns a table with what stands behind its end, and behind those of its rows.
func behindTable(table [][]int) [][]int {
	var all [][]int
	for _, row := range behind(table) {
		all = append(all, behind(row))
	}
	return all
}

// allBehind returns all lists of arguments with what stands in the room behind their ends.
func allBehind(x arguments) []any {
	l := []any{
		behindTable(x.flow), behind(x.blades), behind(x.thick), behindTable(x.task.Table), behind(x.mask.Open),
		behind(x.weights.Low), behind(x.weights.High), behind(x.weights.Caps), behind(x.load.Parts),
		behind(x.places), behind(x.cover.Parts), behind(x.cover.Places), behind(x.history),
	}
	for _, p := range x.load.Parts {
		l = append(l, behind(p.Fits))
	}
	return l
}

// spoil writes into a list, and behind its end.
func spoil[T any](l []T) {
	clear(l)
	clear(l[:cap(l)])
	var zero T
	_ = append(l, zero)
}

// spoilTable writes into the rows of a table, and behind their ends.
func spoilTable(table [][]int) {
	for _, row := range table {
		spoil(row)
	}
	spoil(table)
}

// R3, R4: no function writes into its arguments, also where a list has room behind its end; results share no memory with
// them, nor with those of another call, which are the same.
func TestArgumentsStay(t *testing.T) {
	x, want := anyArguments(), anyArguments()
	for range 2 {
		visits, e := rack.Visits(plain(), [2]int{0, 0}, 6)
		wantSame(t, "Visits", visits, e, [][]int{{2, 0}, {0, 2}, {1, 0}, {0, 1}}, api.OK)
		spoilTable(visits)
		rack.CheckFlow(plain(), x.flow)
		rack.Thickness(plain(), x.flow, ask(0, 0, 5))
		rack.StepsFor(plain(), x.flow, wish(0, 0, 35))
		all, e := rack.AllThick(plain(), x.flow, 2)
		wantSame(t, "AllThick", all, e, [][]int{{15, 5}, {5, 15}}, api.OK)
		spoilTable(all)
		rack.Spread(x.thick)
		table, e := rack.TableOf(plain(), x.flow, x.blades)
		wantSame(t, "TableOf", table, e, [][]int{{10, 0, 10}, {10, 10, 0}}, api.OK)
		spoilTable(table)
		rack.CheckMask(x.task, x.mask)
		rack.CheckWeights(x.task, x.weights)
		m, w, value, e := rack.BestMask(x.task)
		wantSame(t, "BestMask", value, e, [2]int{2, 1}, api.OK)
		for _, l := range [][]int{m.Open, w.Low, w.High, w.Caps} {
			spoil(l)
		}
		rack.CheckPlaces(x.load, x.places)
		rack.CheckCover(x.load, x.cover)
		places, c, n, e := rack.BestLoad(x.load)
		wantSame(t, "BestLoad", n, e, 2, api.OK)
		for _, l := range [][]int{places, c.Parts, c.Places} {
			spoil(l)
		}
		rack.StateOf(x.history, "a")
		l, e := rack.BatchOf(x.history, "b1")
		wantSame(t, "BatchOf", l, e, []string{"b", "a", "c"}, api.OK)
		spoil(l)
		l, e = rack.WitnessesOf(x.history, "a")
		wantSame(t, "WitnessesOf", l, e, []string{"b", "c"}, api.OK)
		spoil(l)
	}
	if !reflect.DeepEqual(allBehind(x), allBehind(want)) {
		t.Errorf("%v; want %v", allBehind(x), allBehind(want))
	}
}

// wantApart spoils one list of a result after the other, and asks whether the others stay what they were.
func wantApart(t *testing.T, name string, of func() [][]int) {
	t.Helper()
	want := copied(of())
	for i := range want {
		got := of()
		spoil(got[i])
		got[i] = want[i]
		if !slices.EqualFunc(got, want, slices.Equal) {
			t.Errorf("%s: %v with the list %d spoilt; want %v", name, got, i, want)
		}
	}
}

// R3: the lists of one result share no memory.
func TestListsApart(t *testing.T) {
	r := draws(93)
	for range 200 {
		x := drawnRack(r)
		flow, blades := drawnFlow(r, x), drawnTable(r, 1, x.Stations, 2)[0]
		wantApart(t, "Visits", func() [][]int { return must[[][]int](t)(rack.Visits(x, [2]int{}, 1000)) })
		wantApart(t, "AllThick", func() [][]int { return must[[][]int](t)(rack.AllThick(x, flow, 1000)) })
		wantApart(t, "TableOf", func() [][]int { return must[[][]int](t)(rack.TableOf(x, flow, blades)) })
		masks := drawnTask(r)
		wantApart(t, "BestMask", func() [][]int {
			m, w, _, _ := rack.BestMask(masks)
			return [][]int{m.Open, w.Low, w.High, w.Caps}
		})
		l := drawnLoad(r, 24, 1+r.IntN(12))
		wantApart(t, "BestLoad", func() [][]int {
			places, c, _, _ := rack.BestLoad(l)
			return [][]int{places, c.Parts, c.Places}
		})
	}
}

// R5: a nil list and an empty one are the same.
func TestEmptyLists(t *testing.T) {
	for _, empty := range [][]int{nil, {}} {
		if e := rack.CheckFlow(least(), [][]int{empty}); e != api.ErrShape {
			t.Errorf("an empty row: %d", e)
		}
		table, e := rack.TableOf(least(), [][]int{{1}}, empty)
		wantSame(t, "no blades", table, e, nil, api.ErrShape)
		value, e := rack.CheckMask(task(0, 1, []int{1}), api.RackMask{Den: 1, Open: empty})
		wantSame(t, "an empty mask", value, e, [2]int{}, api.ErrShape)
		value, e = rack.CheckWeights(task(0, 1, []int{1}), weights(1, empty, empty, empty))
		wantSame(t, "empty weights", value, e, [2]int{}, api.ErrShape)
		if e := rack.CheckTask(task(0, 1, empty)); e != api.ErrEmpty {
			t.Errorf("an empty row of a task: %d", e)
		}
		l := load(1, empty)
		n, e := rack.CheckPlaces(l, []int{-1})
		wantSame(t, "a part that fits no place", n, e, 0, api.OK)
		n, e = rack.CheckPlaces(load(1), empty)
		wantSame(t, "no parts", n, e, 0, api.OK)
		n, e = rack.CheckCover(l, cover(empty, empty))
		wantSame(t, "no members", n, e, 0, api.OK)
		wantLoad(t, "a part that fits no place", l)
	}
	for _, empty := range [][][]int{nil, {}} {
		if e := rack.CheckFlow(least(), empty); e != api.ErrShape {
			t.Errorf("an empty flow: %d", e)
		}
		if e := rack.CheckTask(api.MaskTask{Table: empty}); e != api.ErrEmpty {
			t.Errorf("an empty table: %d", e)
		}
	}
	for _, empty := range [][]api.RackPart{nil, {}} {
		wantLoad(t, "no parts", api.RackLoad{Places: 3, Parts: empty})
	}
}
