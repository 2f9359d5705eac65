package rack_test

import (
	"math"
	"math/rand/v2"
	"slices"
	"testing"

	"etalon/api"
	"etalon/rack"
)

// ask returns what is asked of a part.
func ask(planet, holder, steps int) api.RackAsk {
	return api.RackAsk{Part: [2]int{planet, holder}, Steps: steps}
}

// wish returns what is wished of a part.
func wish(planet, holder, thick int) api.RackWish {
	return api.RackWish{Part: [2]int{planet, holder}, Thick: thick}
}

// drawnFlow returns a flow, often of few places.
func drawnFlow(r *rand.Rand, x api.Rack) [][]int {
	flow := drawnTable(r, x.Stations, x.Holders, 100)
	few := r.IntN(4)
	for _, row := range flow {
		for side := range row {
			if r.IntN(4) < few {
				row[side] = 0
			}
		}
	}
	return flow
}

// P9.2: Thickness.
func TestThickness(t *testing.T) {
	for _, x := range []struct {
		name string
		rack api.Rack
		flow [][]int
		ask  api.RackAsk
		want int
	}{
		{"the chapter's example", plain(), plainFlow(), ask(0, 0, 4), 20},
		{"2 steps", plain(), plainFlow(), ask(0, 0, 2), 15},
		{"2 steps, the other holder", plain(), plainFlow(), ask(0, 1, 2), 5},
		{"2 steps, the other planet", plain(), plainFlow(), ask(1, 0, 2), 5},
		{"2 steps, both others", plain(), plainFlow(), ask(1, 1, 2), 15},
		{"no steps", plain(), plainFlow(), ask(0, 0, 0), 0},
		{"one step", plain(), plainFlow(), ask(0, 0, 1), 10},
		{"3 steps", plain(), plainFlow(), ask(0, 0, 3), 15},
		{"6 steps", plain(), plainFlow(), ask(0, 0, 6), 35},
		{"as many steps as there may be", plain(), plainFlow(), ask(0, 0, 1000000), 5000000},
		{"less one", plain(), plainFlow(), ask(0, 0, 999999), 4999995},
		{"no flow", plain(), nothing(plain()), ask(0, 0, 1000000), 0},
		{"the same everywhere", plain(), evenFlow(), ask(1, 1, 999999), 6999993},
		{"the most", least(), [][]int{{100}}, ask(0, 0, 1000000), 100000000},
		{"one station", rackOf(1, 1, 3, 1), [][]int{{1, 10, 100}}, ask(0, 1, 2), 110},
		{"one station, nothing turns", rackOf(1, 1, 3, 0), [][]int{{1, 10, 100}}, ask(0, 1, 2), 20},
		{"one holder", rackOf(3, 3, 1, 0), [][]int{{1}, {10}, {100}}, ask(1, 0, 2), 110},
	} {
		got, e := rack.Thickness(x.rack, x.flow, x.ask)
		wantSame(t, x.name, got, e, x.want, api.OK)
	}
}

// P9.2: AllThick.
func TestAllThick(t *testing.T) {
	for _, x := range []struct {
		name  string
		rack  api.Rack
		flow  [][]int
		steps int
		want  [][]int
	}{
		{"the chapter's example", plain(), plainFlow(), 4, [][]int{{20, 20}, {20, 20}}},
		{"2 steps", plain(), plainFlow(), 2, [][]int{{15, 5}, {5, 15}}},
		{"no steps", plain(), plainFlow(), 0, [][]int{{0, 0}, {0, 0}}},
		{"one part", least(), [][]int{{3}}, 1000000, [][]int{{3000000}}},
		{"one holder", rackOf(4, 2, 1, 0), [][]int{{1}, {2}, {4}, {8}}, 3, [][]int{{7}, {13}}},
		{"one planet", rackOf(2, 1, 3, 1), [][]int{{1, 2, 4}, {8, 16, 32}}, 2, [][]int{{17, 34, 12}}},
	} {
		got, e := rack.AllThick(x.rack, x.flow, x.steps)
		wantSame(t, x.name, got, e, x.want, api.OK)
	}
}

// P9.2: thicknesses are those of the definition; all together are those one by one.
func TestThicknessesAgain(t *testing.T) {
	r := draws(20)
	for range 600 {
		x := drawnRack(r)
		flow, steps := drawnFlow(r, x), drawnUpTo(r, 0, 700)
		all, e := rack.AllThick(x, flow, steps)
		wantSame(t, "planets", len(all), e, x.Planets, api.OK)
		for _, part := range bookParts(x) {
			want := bookThick(x, flow, part, steps)
			got, e := rack.Thickness(x, flow, ask(part[0], part[1], steps))
			wantSame(t, "a thickness", got, e, want, api.OK)
			wantSame(t, "one of all", all[part[0]][part[1]], api.OK, want, api.OK)
		}
		wantSame(t, "holders", len(all[0]), api.OK, x.Holders, api.OK)
	}
}

// P9.7: a thickness is the sum of flow times visits, for any number of steps.
func TestThicknessOfVisits(t *testing.T) {
	r := draws(21)
	for range 3000 {
		x := drawnRack(r)
		flow, part, steps := drawnFlow(r, x), drawnPart(r, x), drawnUpTo(r, 0, 1000000)
		sum := 0
		for station, row := range must[[][]int](t)(rack.Visits(x, part, steps)) {
			for side, n := range row {
				sum += n * flow[station][side]
			}
		}
		got, e := rack.Thickness(x, flow, ask(part[0], part[1], steps))
		wantSame(t, "a thickness", got, e, sum, api.OK)
	}
}

// P9.2: StepsFor.
func TestStepsFor(t *testing.T) {
	late := [][]int{{0, 0}, {0, 0}, {0, 0}, {0, 1}}
	for _, x := range []struct {
		name  string
		rack  api.Rack
		flow  [][]int
		wish  api.RackWish
		want  int
		errno api.Errno
	}{
		{"the chapter's example", plain(), plainFlow(), wish(0, 0, 16), 4, api.OK},
		{"more than a period", plain(), plainFlow(), wish(0, 0, 35), 6, api.OK},
		{"nothing", plain(), plainFlow(), wish(0, 0, 0), 0, api.OK},
		{"at once", plain(), plainFlow(), wish(0, 0, 1), 1, api.OK},
		{"just behind one step", plain(), plainFlow(), wish(0, 0, 10), 1, api.OK},
		{"just not behind one step", plain(), plainFlow(), wish(0, 0, 11), 2, api.OK},
		{"the same behind two and three steps", plain(), plainFlow(), wish(0, 0, 15), 2, api.OK},
		{"just a period", plain(), plainFlow(), wish(0, 0, 20), 4, api.OK},
		{"one more", plain(), plainFlow(), wish(0, 0, 21), 5, api.OK},
		{"just two periods", plain(), plainFlow(), wish(0, 0, 40), 8, api.OK},
		{"the other planet", plain(), plainFlow(), wish(1, 0, 1), 2, api.OK},
		{"nothing, where there is no flow", plain(), nothing(plain()), wish(0, 0, 0), 0, api.OK},
		{"something, where there is no flow", plain(), nothing(plain()), wish(0, 0, 1), 0, api.ErrNone},
		{"the most, where there is no flow", plain(), nothing(plain()), wish(0, 0, 500000000), 0, api.ErrNone},
		{"at the last step of the period", plain(), late, wish(0, 0, 1), 4, api.OK},
		{"at the last step of the next one", plain(), late, wish(0, 0, 2), 8, api.OK},
		{"at the second step, by the other planet", plain(), late, wish(1, 0, 1), 2, api.OK},
		{"never, by the other holder", plain(), late, wish(0, 1, 1), 0, api.ErrNone},
		{"never, by both others", plain(), late, wish(1, 1, 500000000), 0, api.ErrNone},
		{"beyond the steps that there may be", plain(), late, wish(0, 0, 250001), 1000004, api.OK},
		{"just them", plain(), late, wish(0, 0, 250000), 1000000, api.OK},
		{"the most", plain(), late, wish(0, 0, 500000000), 2000000000, api.OK},
		{"the most of the most", least(), [][]int{{100}}, wish(0, 0, 500000000), 5000000, api.OK},
		{"less one", least(), [][]int{{100}}, wish(0, 0, 499999999), 5000000, api.OK},
		{"the most of the least", least(), [][]int{{1}}, wish(0, 0, 500000000), 500000000, api.OK},
	} {
		got, e := rack.StepsFor(x.rack, x.flow, x.wish)
		wantSame(t, x.name, got, e, x.want, x.errno)
	}
	// One place of a period of 276 steps has a flow: as many steps as there can be.
	flow := nothing(rackOf(23, 1, 12, 11))
	flow[22] = make([]int, 12)
	flow[22][1] = 1
	got, e := rack.StepsFor(rackOf(23, 1, 12, 11), flow, wish(0, 0, 500000000))
	last := 0
	for step, place := range bookPlaces(rackOf(23, 1, 12, 11), [2]int{0, 0}, 276) {
		if place == [2]int{22, 1} {
			last = step + 1
		}
	}
	wantSame(t, "the longest period", got, e, 499999999*276+last, api.OK)
}

// P9.2: behind the steps of StepsFor a part has the thickness, and a step before it has not; a part that never has it
// gets nothing in a period.
func TestStepsForAgain(t *testing.T) {
	r := draws(22)
	never, beyond := 0, 0
	for range 8000 {
		x := drawnRack(r)
		flow, part, thick := drawnFlow(r, x), drawnPart(r, x), drawnUpTo(r, 0, 500000000)
		if r.IntN(2) == 0 {
			thick = r.IntN(2000)
		}
		steps, e := rack.StepsFor(x, flow, wish(part[0], part[1], thick))
		each := bookThick(x, flow, part, bookPeriod(x))
		if e == api.ErrNone {
			never++
			wantSame(t, "never", steps, e, 0, api.ErrNone)
			wantSame(t, "what it gets, and what it would", each == 0 && thick > 0, api.OK, true, api.OK)
			continue
		}
		if steps > 1000000 {
			beyond++
		}
		// Whole periods are taken off, as steps may be beyond what there may be.
		behind := func(steps int) int {
			return steps/bookPeriod(x)*each + bookThick(x, flow, part, steps%bookPeriod(x))
		}
		if e != api.OK || steps < 0 || behind(steps) < thick || steps > 0 && behind(steps-1) >= thick {
			t.Fatalf("%v, %v, %v, %d: %d, %d", x, flow, part, thick, steps, e)
		}
	}
	wantSeen(t, "parts that never have it", never, 100)
	wantSeen(t, "steps beyond those that there may be", beyond, 100)
}

// P9.2: Spread.
func TestSpread(t *testing.T) {
	for _, x := range []struct {
		name  string
		list  []int
		want  api.Frac
		errno api.Errno
	}{
		{"the chapter's example", []int{15, 5}, api.Frac{Num: 1, Den: 2}, api.OK},
		{"all of it", []int{15, 5, 5, 15}, api.Frac{Num: 1, Den: 2}, api.OK},
		{"one", []int{7}, api.Frac{Num: 0, Den: 1}, api.OK},
		{"alike", []int{7, 7, 7}, api.Frac{Num: 0, Den: 1}, api.OK},
		{"one in between", []int{3, 4, 5}, api.Frac{Num: 1, Den: 4}, api.OK},
		{"the greatest one in the middle", []int{3, 9, 3}, api.Frac{Num: 1, Den: 2}, api.OK},
		{"the least one in the middle", []int{9, 3, 9}, api.Frac{Num: 1, Den: 2}, api.OK},
		{"one is 0", []int{0, 9}, api.Frac{Num: 1, Den: 1}, api.OK},
		{"one is not 0", []int{0, 0, 1}, api.Frac{Num: 1, Den: 1}, api.OK},
		{"lowest terms", []int{10, 2}, api.Frac{Num: 2, Den: 3}, api.OK},
		{"the most", []int{500000000, 500000000}, api.Frac{Num: 0, Den: 1}, api.OK},
		{"nearly the most", []int{500000000, 499999999}, api.Frac{Num: 1, Den: 999999999}, api.OK},
		{"the most and 1", []int{500000000, 1}, api.Frac{Num: 499999999, Den: 500000001}, api.OK},
		{"the most and 0", []int{500000000, 0}, api.Frac{Num: 1, Den: 1}, api.OK},
		{"none", nil, api.Frac{}, api.ErrEmpty},
		{"an empty list", []int{}, api.Frac{}, api.ErrEmpty},
		{"0", []int{0}, api.Frac{}, api.ErrZero},
		{"all are 0", []int{0, 0, 0}, api.Frac{}, api.ErrZero},
		{"below 0", []int{-1}, api.Frac{}, api.ErrRange},
		{"beyond the most", []int{500000001}, api.Frac{}, api.ErrRange},
		{"below 0, the last one", []int{1, 2, -1}, api.Frac{}, api.ErrRange},
		{"beyond the most, the last one", []int{1, 2, 500000001}, api.Frac{}, api.ErrRange},
		{"below 0 ahead of all are 0", []int{0, 0, -1}, api.Frac{}, api.ErrRange},
		{"the greatest number", []int{1, math.MaxInt}, api.Frac{}, api.ErrRange},
		{"the least number", []int{math.MinInt, 1}, api.Frac{}, api.ErrRange},
		{"both, which are opposite", []int{-5, 5}, api.Frac{}, api.ErrRange},
	} {
		got, e := rack.Spread(x.list)
		wantSame(t, x.name, got, e, x.want, x.errno)
	}
	r := draws(23)
	for range 5000 {
		l := []int{drawnUpTo(r, 1, 500000000)}
		for range r.IntN(6) {
			l = append(l, drawnUpTo(r, 0, 500000000))
		}
		a, b := slices.Min(l), slices.Max(l)
		want := pair(fraction(b-a, a+b))
		got, e := rack.Spread(l)
		wantSame(t, "a spread", got, e, api.Frac{Num: want[0], Den: want[1]}, api.OK)
	}
}

// P9.2: TableOf.
func TestTableOf(t *testing.T) {
	for _, x := range []struct {
		name   string
		rack   api.Rack
		flow   [][]int
		blades []int
		want   [][]int
	}{
		{"the chapter's example", plain(), plainFlow(), []int{0, 0, 1, 1}, [][]int{{15, 5}, {5, 15}}},
		{"one blade", plain(), plainFlow(), []int{0, 0, 0, 0}, [][]int{{20}, {20}}},
		{"in turn", plain(), plainFlow(), []int{0, 1, 0, 1}, [][]int{{10, 10}, {10, 10}}},
		{"three blades", plain(), plainFlow(), []int{2, 0, 1, 0}, [][]int{{10, 0, 10}, {10, 10, 0}}},
		{"a blade without a station", plain(), plainFlow(), []int{2, 0, 0, 2}, [][]int{{5, 0, 15}, {15, 0, 5}}},
		{"two blades without a station", plain(), plainFlow(), []int{2, 2, 2, 2}, [][]int{{0, 0, 20}, {0, 0, 20}}},
		{"no flow", plain(), nothing(plain()), []int{1, 0, 0, 0}, [][]int{{0, 0}, {0, 0}}},
		{"one station", rackOf(1, 1, 3, 1), [][]int{{1, 10, 100}}, []int{1}, [][]int{{0, 111}, {0, 111}, {0, 111}}},
		{"one station, nothing turns", rackOf(1, 1, 3, 0), [][]int{{1, 10, 100}}, []int{0}, [][]int{{1}, {10}, {100}}},
		{"one part", least(), [][]int{{3}}, []int{0}, [][]int{{3}}},
		{"one holder", rackOf(3, 3, 1, 0), [][]int{{1}, {10}, {100}}, []int{1, 0, 1}, [][]int{{10, 101}}},
		{"planets that do not turn", rackOf(2, 1, 2, 0), [][]int{{1, 2}, {4, 8}}, []int{0, 1}, [][]int{{1, 4}, {2, 8}}},
	} {
		got, e := rack.TableOf(x.rack, x.flow, x.blades)
		wantSame(t, x.name, got, e, x.want, api.OK)
	}
	r := draws(24)
	for range 1000 {
		x := drawnRack(r)
		flow, blades := drawnFlow(r, x), drawnTable(r, 1, x.Stations, r.IntN(3))[0]
		got, e := rack.TableOf(x, flow, blades)
		wantSame(t, "a table", got, e, bookTable(x, flow, blades), api.OK)
	}
}

// P9.6: after whole periods the thicknesses of each planet's parts are those of the planet 0, in another order; after
// one they are the sums of the rows of the table of blades.
func TestPlanetsAlike(t *testing.T) {
	r := draws(25)
	others := 0
	for range 1500 {
		x := drawnRack(r)
		flow := drawnFlow(r, x)
		period := must[int](t)(rack.Period(x))
		all := must[[][]int](t)(rack.AllThick(x, flow, period*(1+r.IntN(1000000/period))))
		for _, row := range all {
			if !slices.Equal(row, all[0]) {
				others++
			}
			first := slices.Sorted(slices.Values(all[0]))
			wantSame(t, "a planet", slices.Sorted(slices.Values(row)), api.OK, first, api.OK)
		}
		blades := drawnTable(r, 1, x.Stations, 2)[0]
		one := must[[][]int](t)(rack.AllThick(x, flow, period))
		for holder, row := range must[[][]int](t)(rack.TableOf(x, flow, blades)) {
			sum := 0
			for _, n := range row {
				sum += n
			}
			wantSame(t, "a row", sum, api.OK, one[0][holder], api.OK)
		}
	}
	wantSeen(t, "planets in another order", others, 100)
}

// P9.2: the errors of the functions that follow parts.
func TestThickDefects(t *testing.T) {
	rackAndFlow := slices.Concat(turnedRackDefects(), flowDefects())
	part := slices.Concat(rackAndFlow, partDefects())
	wantDefects(t, "Thickness", rightTurned, slices.Concat(part, stepDefects()), errorOf(t, func(x turned) (int, api.Errno) {
		return rack.Thickness(x.rack, x.flow, ask(x.part[0], x.part[1], x.number))
	}))
	wantDefects(t, "AllThick", rightTurned, slices.Concat(rackAndFlow, stepDefects()), errorOf(t, func(x turned) ([][]int, api.Errno) {
		return rack.AllThick(x.rack, x.flow, x.number)
	}))
	wished := func() turned {
		x := rightTurned()
		x.number = 500000000
		return x
	}
	thick := within("thick", func(x *turned) *int { return &x.number }, beyond(0, 500000000, api.ErrRange))
	stepsFor := errorOf(t, func(x turned) (int, api.Errno) {
		return rack.StepsFor(x.rack, x.flow, wish(x.part[0], x.part[1], x.number))
	})
	wantDefects(t, "StepsFor", wished, slices.Concat(part, thick), stepsFor)
	// That a part never has its thickness is told behind all others.
	for _, d := range slices.Concat(turnedRackDefects(), partDefects(), thick) {
		x := wished()
		x.flow = nothing(x.rack)
		d.do(&x)
		if _, e := stepsFor(x); e != d.errno {
			t.Errorf("%s, and no flow: %d", d.name, e)
		}
	}
	blades := within("blades", func(x *turned) *[]int { return &x.blades }, slices.Concat(lengthDefects[int](3), numberDefects(3, 0, 2)))
	wantDefects(t, "TableOf", rightTurned, slices.Concat(rackAndFlow, blades), errorOf(t, func(x turned) ([][]int, api.Errno) {
		return rack.TableOf(x.rack, x.flow, x.blades)
	}))
}
