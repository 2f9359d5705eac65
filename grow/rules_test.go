package grow_test

import (
	"math"
	"math/rand/v2"
	"reflect"
	"slices"
	"testing"

	"etalon/api"
	"etalon/grow"
)

// odd returns ints at all kinds of ends.
func odd(r *rand.Rand) func() int {
	l := []int{
		math.MinInt, math.MinInt + 1, -1 << 32, -1000001, -1001, -2, -1, 0, 1, 2, 3, 5, 7, 8, 39, 40, 50, 51, 200, 201, 999, 1000, 1001, 4000, 4999, 5000,
		80000, 80001, 100000, 100001, 200000, 200001, 1000000, 1000001, 1 << 32, math.MaxInt - 1, math.MaxInt,
	}
	return func() int { return l[r.IntN(len(l))] }
}

// oddSamples returns samples of all kinds.
func oddSamples(r *rand.Rand) []float32 {
	l := []float32{
		float32(math.Inf(-1)), -math.MaxFloat32, -1, minusZero, 0, math.SmallestNonzeroFloat32, 0.5, 1, 2, 9, 1000000, 1000001, 1 << 63,
		math.MaxFloat32, float32(math.Inf(1)), float32(math.NaN()),
	}
	var samples []float32
	for range r.IntN(6) {
		samples = append(samples, l[3+r.IntN(8)])
		if r.IntN(5) == 0 {
			samples = append(samples, l[r.IntN(len(l))])
		}
	}
	return samples
}

// R2: no rates, tracks, signals and quarters make a function panic, and beside an error stands the zero value.
func TestNoPanicOfGrowth(t *testing.T) {
	r := draws(90)
	n := odd(r)
	of := func() api.Range {
		if r.IntN(2) == 0 {
			return span(n(), n())
		}
		return drawnRange(r, 1, 100000)
	}
	for range 40000 {
		wantNone[api.Range](t, "Grown")(grow.Grown(of(), of()))
		wantNone[api.Range](t, "SecondsFor")(grow.SecondsFor(of(), n()))
		x, _ := drawnGrowth(r)
		switch r.IntN(4) {
		case 0:
			x.Rate, x.Error = of(), n()
		case 1:
			x.Readings = append(x.Readings, at(n(), n()), at(n(), n()))
		}
		grow.CheckTrack(x)
		wantNone[[]api.Range](t, "Tracked")(grow.Tracked(x))
		wantNone[[2]int](t, "Contradiction")(grow.Contradiction(x))
		s := signal(n(), oddSamples(r)...)
		grow.CheckSignal(s)
		wantNone[[]api.GrowTurn](t, "Turns")(grow.Turns(s))
		q := drawnQuarters(r)
		if r.IntN(2) == 0 {
			q = quarters(n(), n(), n())
		}
		wantNone[api.Range](t, "QuarterThick")(grow.QuarterThick(q))
		wantNone[api.Range](t, "RateOf")(grow.RateOf(q, of()))
		wantNone[api.Range](t, "EndAt")(grow.EndAt(q, of(), of()))
		wantNone[api.GrowStop](t, "ParseStop")(grow.ParseStop(grow.FormatStop(stop(n(), n(), n()))))
	}
}

// oddTask returns a task of any numbers.
func oddTask(r *rand.Rand) api.GrowTask {
	n, x := odd(r), drawnTask(r)
	switch r.IntN(8) {
	case 0:
		x.Design = append(x.Design, api.Layer{Index: n(), Loss: n(), Thick: n()})
	case 1:
		x.Grown = append(x.Grown, span(n(), n()))
	case 2:
		x.Error = n()
	case 3:
		x.Demands[0] = api.BandDemand{Share: n(), Polar: n(), Index: n(), Sine: span(n(), n()), Wave: span(n(), n()), Least: n(), Most: n()}
	case 4:
		x.On = api.Substrate{Index: n(), Loss: n()}
	case 5:
		x.Demands = slices.Repeat(x.Demands, r.IntN(9))
	}
	return x
}

// R2: no designs make a function panic, and beside an error stands the zero value.
func TestNoPanicOfDesigns(t *testing.T) {
	r := draws(91)
	n := odd(r)
	for range 1500 {
		x := oddTask(r)
		wantNone[[]api.LayerBox](t, "Boxes")(grow.Boxes(x))
		answer, point, e := grow.Released(x)
		wantNone[int](t, "Released")(answer, e)
		if answer != api.AnswerNo || e != api.OK {
			wantSame(t, "the point", point, e, api.BandPoint{}, e)
		}
		wantNone[int](t, "Tolerance")(grow.Tolerance(x, min(n(), 2)))
		wantNone[int](t, "Compensated")(grow.Compensated(x, min(n(), 2)))
	}
}

// R2: no chambers and changes make a function panic, and beside an error stands the zero value.
func TestNoPanicOfChambers(t *testing.T) {
	r := draws(92)
	n := odd(r)
	bools := func(devices int) []bool {
		l := make([]bool, devices)
		for i := range l {
			l[i] = r.IntN(2) == 0
		}
		return l
	}
	for range 30000 {
		c := drawnChamber(r, 5)
		switch r.IntN(5) {
		case 0:
			c.Rules = append(c.Rules, api.GrowRule{If: n(), Then: n()})
		case 1:
			c.Devices = append(c.Devices, []string{"", "d0", "é", longName}[r.IntN(4)])
		}
		here := bools(max(0, len(c.Devices)+r.IntN(8)/6))
		grow.CheckChamber(c)
		wantNone[int](t, "FirstBroken")(grow.FirstBroken(c, here))
		next, rule, e := grow.Switched(c, here, r.IntN(7)-1)
		wantNone[[]bool](t, "Switched")(next, e)
		if e != api.ErrBreak {
			wantSame(t, "the rule", rule, e, 0, e)
		}
		x := api.GrowChange{From: here, To: bools(len(c.Devices))}
		l, labels, e := grow.Sequence(c, x)
		wantNone[[]int](t, "Sequence")(l, e)
		if e != api.ErrNone {
			wantNone[[]int](t, "its labels")(labels, e)
		}
		wantNone[int](t, "CheckSequence")(grow.CheckSequence(c, x, []int{n(), 1, 0, n()}[r.IntN(4):]))
		for range min(1, len(labels)) {
			labels[r.IntN(len(labels))] = n()
		}
		wantNone[int](t, "CheckLabels")(grow.CheckLabels(c, x, labels))
		wantNone[int](t, "CheckLabels")(grow.CheckLabels(c, x, []int{n(), n()}[r.IntN(3):]))
	}
}

// arguments is one argument of each kind.
type arguments struct {
	track   api.GrowTrack
	signal  api.GrowSignal
	task    api.GrowTask
	chamber api.GrowChamber
	change  api.GrowChange
	list    []int
	labels  []int
}

// roomy returns a list with room behind its end, in which other numbers stand.
func roomy[T any](l []T) []T {
	var zero T
	all := append(slices.Clone(l), zero, zero, zero)
	return all[:len(l)]
}

// anyArguments returns right arguments, whose lists have room behind their ends.
func anyArguments() arguments {
	x := pair(just(450), 500)
	return arguments{
		track:   track(span(1000, 2000), 1, roomy([]api.GrowReading{at(5, 10), at(15, 30)})...),
		signal:  signal(1, roomy([]float32{0, 5, 9, 10, 9, 4, 3, 8})...),
		task:    api.GrowTask{Design: roomy(x.Design), Grown: roomy(x.Grown), Error: 1, Demands: roomy(x.Demands), On: x.On},
		chamber: api.GrowChamber{Devices: roomy(plain().Devices), Rules: roomy(plain().Rules)},
		change:  api.GrowChange{From: roomy(state("000")), To: roomy(state("111"))},
		list:    roomy([]int{2, 1, 0}),
		labels:  roomy([]int{0, 0, 0, 0, 1, 0, 2, 3}),
	}
}

// behind returns lists with what stands in the room behind their ends.
func behind(x arguments) []any {
	return []any{
		x.track.Readings[:cap(x.track.Readings)], x.signal.Samples[:cap(x.signal.Samples)],
		x.task.Design[:cap(x.task.Design)], x.task.Grown[:cap(x.task.Grown)], x.task.Demands[:cap(x.task.Demands)],
		x.chamber.Devices[:cap(x.chamber.Devices)], x.chamber.Rules[:cap(x.chamber.Rules)],
		x.change.From[:cap(x.change.From)], x.change.To[:cap(x.change.To)], x.list[:cap(x.list)], x.labels[:cap(x.labels)],
	}
}

// R3: no function writes into its arguments, also where a list has room behind its end; results share no memory with
// them.
func TestArgumentsStay(t *testing.T) {
	x, want := anyArguments(), anyArguments()
	enclosures := must[[]api.Range](t)(grow.Tracked(x.track))
	grow.Contradiction(x.track)
	told := must[[]api.GrowTurn](t)(grow.Turns(x.signal))
	boxes := must[[]api.LayerBox](t)(grow.Boxes(x.task))
	grow.Released(x.task)
	grow.Tolerance(x.task, 50)
	n, e := grow.Compensated(x.task, 50)
	wantSame(t, "another thickness", n > 500, e, true, api.OK)
	grow.FirstBroken(x.chamber, x.change.From)
	next, _, e := grow.Switched(x.chamber, x.change.From, 2)
	wantSame(t, "Switched", next, e, state("001"), api.OK)
	l, labels, e := grow.Sequence(x.chamber, x.change)
	wantSame(t, "Sequence", l, e, []int{2, 1, 0}, api.OK)
	grow.CheckSequence(x.chamber, x.change, x.list)
	grow.CheckLabels(x.chamber, x.change, x.labels)
	// What is written into results changes no argument.
	enclosures[0], told[0], boxes[0], next[0], l[0], labels[0] = span(9, 9), top(9, 9, 9), api.LayerBox{}, true, 9, 9
	_, _, _ = append(enclosures, span(9, 9)), append(told, top(9, 9, 9)), append(boxes, api.LayerBox{})
	_, _, _ = append(next, true), append(l, 9), append(labels, 9)
	if !reflect.DeepEqual(behind(x), behind(want)) {
		t.Errorf("%v; want %v", behind(x), behind(want))
	}
}

// R3, R4: results are the same in each call, whatever was written into those of an earlier one; a sequence and its labels
// share no memory.
func TestResultsApart(t *testing.T) {
	x := anyArguments()
	for range 2 {
		enclosures := must[[]api.Range](t)(grow.Tracked(x.track))
		wantSame(t, "Tracked", enclosures, api.OK, []api.Range{span(9000, 10000), span(29000, 30000)}, api.OK)
		told := must[[]api.GrowTurn](t)(grow.Turns(x.signal))
		wantSame(t, "Turns", told, api.OK, turns(top(2, 4, 5), bottom(5, 6, 7)), api.OK)
		boxes := must[[]api.LayerBox](t)(grow.Boxes(x.task))
		wantSame(t, "Boxes", boxes, api.OK, []api.LayerBox{box(20000, just(450)), box(20000, span(499, 501))}, api.OK)
		l, labels, e := grow.Sequence(x.chamber, x.change)
		_ = append(l, 9, 9, 9, 9, 9, 9, 9, 9, 9)
		for i := range l {
			l[i] = 9
		}
		wantLabels(t, "the labels", x.chamber, x.change, labels, 3)
		wantSame(t, "Sequence", l, e, []int{9, 9, 9}, api.OK)
		l, _, e = grow.Sequence(x.chamber, x.change)
		clear(labels)
		_ = append(labels, 9, 9, 9)
		wantSame(t, "Sequence", l, e, []int{2, 1, 0}, api.OK)
		clear(enclosures)
		clear(told)
		clear(boxes)
		clear(l)
	}
	impossible := change("00", "11")
	both := named(2, whenever(0, 1), whenever(1, 0))
	for range 2 {
		_, labels, _ := grow.Sequence(both, impossible)
		wantLabels(t, "labels without a sequence", both, impossible, labels, 1000)
		clear(labels)
	}
}

// R5: a nil list and an empty one are the same.
func TestEmptyLists(t *testing.T) {
	wantSame(t, "no readings", must[[]api.Range](t)(grow.Tracked(track(just(1), 0, []api.GrowReading{}...))), api.OK, nil, api.OK)
	wantSame(t, "no samples", must[[]api.GrowTurn](t)(grow.Turns(signal(0, []float32{}...))), api.OK, nil, api.OK)
	wantSame(t, "no layers", must[[]api.LayerBox](t)(grow.Boxes(api.GrowTask{Design: []api.Layer{}, Grown: []api.Range{}})), api.OK, nil, api.OK)
	for _, demands := range [][]api.BandDemand{nil, {}} {
		_, _, e := grow.Released(api.GrowTask{Demands: demands, On: api.Substrate{Index: 15000}})
		wantSame(t, "no demands", 0, e, 0, api.ErrShape)
	}
	for _, c := range []api.GrowChamber{{}, {Devices: []string{}, Rules: []api.GrowRule{}}} {
		for _, none := range [][]bool{nil, {}} {
			n, e := grow.FirstBroken(c, none)
			wantSame(t, "no devices", n, e, 0, api.ErrNone)
			wantSequence(t, "no devices", c, api.GrowChange{From: none, To: none[:0:0]})
			n, e = grow.FirstBroken(plain(), none)
			wantSame(t, "no state", n, e, 0, api.ErrShape)
		}
	}
}
