package rack_test

import (
	"math"
	"math/rand/v2"
	"slices"
	"testing"

	"etalon/api"
	"etalon/rack"
)

// rackOf returns a rack.
func rackOf(stations, planets, holders, gear int) api.Rack {
	return api.Rack{Stations: stations, Planets: planets, Holders: holders, Gear: gear}
}

// plain is the rack of the chapter's examples, and plainFlow its flow.
func plain() api.Rack    { return rackOf(4, 2, 2, 1) }
func plainFlow() [][]int { return [][]int{{10, 0}, {5, 5}, {0, 10}, {5, 5}} }

// evenFlow is a flow for that rack that is the same everywhere.
func evenFlow() [][]int { return [][]int{{7, 7}, {7, 7}, {7, 7}, {7, 7}} }

// greatest and least are racks at the ends of what is right.
func greatest() api.Rack { return rackOf(24, 8, 12, 11) }
func least() api.Rack    { return rackOf(1, 1, 1, 0) }

// nothing returns a flow of a rack that is 0 everywhere.
func nothing(r api.Rack) [][]int {
	return slices.Repeat([][]int{make([]int, r.Holders)}, r.Stations)
}

// allRacks returns all right racks with so many stations and holders at most.
func allRacks(stations, holders int) []api.Rack {
	var l []api.Rack
	for s := 1; s <= stations; s++ {
		for p := 1; p <= 8; p++ {
			for h := 1; h <= holders && s%p == 0; h++ {
				for g := range h {
					l = append(l, rackOf(s, p, h, g))
				}
			}
		}
	}
	return l
}

// drawnRack returns a right rack.
func drawnRack(r *rand.Rand) api.Rack {
	x := rackOf(0, 1+r.IntN(8), 1+r.IntN(12), 0)
	x.Stations = x.Planets * (1 + r.IntN(24/x.Planets))
	x.Gear = r.IntN(x.Holders)
	return x
}

// drawnPart returns a part of a rack.
func drawnPart(r *rand.Rand, x api.Rack) [2]int { return [2]int{r.IntN(x.Planets), r.IntN(x.Holders)} }

// P9.1: PlaceAt.
func TestPlaceAt(t *testing.T) {
	for _, x := range []struct {
		name string
		rack api.Rack
		part [2]int
		want [][2]int // at the steps from 0 on
	}{
		{"the chapter's example", plain(), [2]int{0, 0}, [][2]int{{0, 0}, {1, 1}, {2, 0}, {3, 1}, {0, 0}}},
		{"the other planet", plain(), [2]int{1, 0}, [][2]int{{2, 0}, {3, 1}, {0, 0}, {1, 1}, {2, 0}}},
		{"the other holder", plain(), [2]int{0, 1}, [][2]int{{0, 1}, {1, 0}, {2, 1}, {3, 0}, {0, 1}}},
		{"the other planet, the other holder", plain(), [2]int{1, 1}, [][2]int{{2, 1}, {3, 0}, {0, 1}, {1, 0}}},
		{"planets do not turn", rackOf(2, 1, 3, 0), [2]int{0, 2}, [][2]int{{0, 2}, {1, 2}, {0, 2}}},
		{"one station, planets turn", rackOf(1, 1, 3, 2), [2]int{0, 1}, [][2]int{{0, 1}, {0, 0}, {0, 2}, {0, 1}}},
		{"nothing turns", rackOf(1, 1, 3, 0), [2]int{0, 1}, [][2]int{{0, 1}, {0, 1}}},
		{"one part", least(), [2]int{0, 0}, [][2]int{{0, 0}, {0, 0}}},
		{"one holder", rackOf(3, 3, 1, 0), [2]int{1, 0}, [][2]int{{1, 0}, {2, 0}, {0, 0}, {1, 0}}},
		{"the last part of all", greatest(), [2]int{7, 11}, [][2]int{{21, 11}, {22, 10}, {23, 9}, {0, 8}, {1, 7}}},
		{"three stations for each planet", rackOf(9, 3, 4, 3), [2]int{2, 1}, [][2]int{{6, 1}, {7, 0}, {8, 3}, {0, 2}}},
	} {
		for step, want := range x.want {
			got, e := rack.PlaceAt(x.rack, x.part, step)
			wantSame(t, x.name, got, e, want, api.OK)
		}
	}
	got, e := rack.PlaceAt(plain(), [2]int{1, 0}, 999999)
	wantSame(t, "the last step but one", got, e, [2]int{1, 1}, api.OK)
	got, e = rack.PlaceAt(greatest(), [2]int{0, 0}, 1000000)
	wantSame(t, "the last step", got, e, [2]int{1000000 % 24, 11000000 % 12}, api.OK)
}

// P9.1: the places of all parts of many racks are those of the definition, for more than a period.
func TestPlacesAgain(t *testing.T) {
	for _, x := range allRacks(8, 5) {
		for _, part := range bookParts(x) {
			for step, want := range bookPlaces(x, part, bookPeriod(x)+3) {
				got, e := rack.PlaceAt(x, part, step)
				wantSame(t, "a place", got, e, want, api.OK)
			}
		}
	}
	r := draws(10)
	for range 300 {
		x := drawnRack(r)
		part := drawnPart(r, x)
		for step, want := range bookPlaces(x, part, 300) {
			got, e := rack.PlaceAt(x, part, step)
			wantSame(t, "a place of a greater rack", got, e, want, api.OK)
		}
	}
}

// P9.1: Period.
func TestPeriod(t *testing.T) {
	for _, x := range []struct {
		rack api.Rack
		want int
	}{
		{plain(), 4}, {least(), 1},
		{rackOf(24, 1, 1, 0), 24}, {rackOf(24, 8, 12, 0), 24}, {rackOf(5, 5, 12, 0), 5},
		{rackOf(1, 1, 12, 0), 1}, {rackOf(1, 1, 12, 1), 12}, {rackOf(1, 1, 12, 11), 12}, {rackOf(1, 1, 12, 8), 3}, {rackOf(1, 1, 12, 6), 2},
		{rackOf(23, 1, 12, 11), 276}, {rackOf(23, 1, 12, 9), 92}, {rackOf(24, 8, 11, 1), 264}, {rackOf(4, 2, 3, 1), 12},
		{rackOf(6, 2, 4, 1), 12}, {rackOf(6, 2, 4, 2), 6}, {rackOf(6, 2, 9, 6), 6}, {rackOf(2, 2, 9, 6), 6},
	} {
		got, e := rack.Period(x.rack)
		wantSame(t, "a period", got, e, x.want, api.OK)
	}
	for _, x := range allRacks(24, 12) {
		// Planets are apart by whole stations, so one stands for all.
		x.Planets = 1
		got, e := rack.Period(x)
		wantSame(t, "a period", got, e, bookPeriod(x), api.OK)
	}
	for _, x := range allRacks(12, 4) {
		got, e := rack.Period(x)
		wantSame(t, "a period", got, e, bookPeriod(x), api.OK)
	}
}

// P9.1: Visits.
func TestVisits(t *testing.T) {
	for _, x := range []struct {
		name  string
		rack  api.Rack
		part  [2]int
		steps int
		want  [][]int
	}{
		{"none", plain(), [2]int{0, 0}, 0, [][]int{{0, 0}, {0, 0}, {0, 0}, {0, 0}}},
		{"one step", plain(), [2]int{1, 0}, 1, [][]int{{0, 0}, {0, 0}, {1, 0}, {0, 0}}},
		{"two steps", plain(), [2]int{1, 0}, 2, [][]int{{0, 0}, {0, 0}, {1, 0}, {0, 1}}},
		{"a period", plain(), [2]int{0, 0}, 4, [][]int{{1, 0}, {0, 1}, {1, 0}, {0, 1}}},
		{"more than one", plain(), [2]int{0, 0}, 6, [][]int{{2, 0}, {0, 2}, {1, 0}, {0, 1}}},
		{"as many steps as there may be", plain(), [2]int{0, 1}, 1000000, [][]int{{0, 250000}, {250000, 0}, {0, 250000}, {250000, 0}}},
		{"less one", plain(), [2]int{0, 1}, 999999, [][]int{{0, 250000}, {250000, 0}, {0, 250000}, {249999, 0}}},
		{"one place", least(), [2]int{0, 0}, 1000000, [][]int{{1000000}}},
		{"one station", rackOf(1, 1, 3, 2), [2]int{0, 1}, 5, [][]int{{2, 2, 1}}},
		{"one holder", rackOf(3, 1, 1, 0), [2]int{0, 0}, 4, [][]int{{2}, {1}, {1}}},
	} {
		got, e := rack.Visits(x.rack, x.part, x.steps)
		wantSame(t, x.name, got, e, x.want, api.OK)
	}
	r := draws(11)
	for range 3000 {
		x := drawnRack(r)
		part, steps := drawnPart(r, x), drawnUpTo(r, 0, 1000)
		got, e := rack.Visits(x, part, steps)
		wantSame(t, "visits", got, e, bookVisits(x, part, steps), api.OK)
	}
}

// P9.7: the visits of a part together are the steps; in so many periods there are so many times those of one.
func TestVisitsTogether(t *testing.T) {
	r := draws(12)
	for range 2000 {
		x := drawnRack(r)
		part, steps := drawnPart(r, x), drawnUpTo(r, 0, 1000000)
		all := 0
		for _, row := range must[[][]int](t)(rack.Visits(x, part, steps)) {
			for _, n := range row {
				all += n
			}
		}
		wantSame(t, "all visits", all, api.OK, steps, api.OK)
		period := must[int](t)(rack.Period(x))
		periods := r.IntN(1000000/period + 1)
		one := must[[][]int](t)(rack.Visits(x, part, period))
		for _, row := range one {
			for side := range row {
				row[side] *= periods
			}
		}
		got, e := rack.Visits(x, part, periods*period)
		wantSame(t, "periods", got, e, one, api.OK)
	}
}

// rackDefects returns the defects of the greatest rack.
func rackDefects() []defect[api.Rack] {
	l := slices.Concat(
		within("Stations", func(x *api.Rack) *int { return &x.Stations }, beyond(1, 24, api.ErrRange)),
		within("Planets", func(x *api.Rack) *int { return &x.Planets }, beyond(1, 8, api.ErrRange)),
		within("Holders", func(x *api.Rack) *int { return &x.Holders }, beyond(1, 12, api.ErrRange)),
		within("Gear", func(x *api.Rack) *int { return &x.Gear }, beyond(0, 11, api.ErrRange)),
		[]defect[api.Rack]{{"a gear of all holders", func(x *api.Rack) { x.Holders = 11 }, api.ErrRange, 0}},
	)
	for _, stations := range []int{23, 17, 9, 1} {
		l = append(l, defect[api.Rack]{"no multiple", func(x *api.Rack) { x.Stations = stations }, api.ErrForm, 0})
	}
	for _, planets := range []int{5, 7} {
		l = append(l, defect[api.Rack]{"no divisor", func(x *api.Rack) { x.Planets = planets }, api.ErrForm, 0})
	}
	return l
}

// P9.1: the errors of CheckRack.
func TestRackDefects(t *testing.T) {
	wantDefects(t, "CheckRack", greatest, rackDefects(), func(x api.Rack) (int, api.Errno) { return notTold, rack.CheckRack(x) })
	for stations := -1; stations <= 26; stations++ {
		for planets := -1; planets <= 10; planets++ {
			want := api.OK
			if stations < 1 || stations > 24 || planets < 1 || planets > 8 {
				want = api.ErrRange
			} else if stations%planets != 0 {
				want = api.ErrForm
			}
			if e := rack.CheckRack(rackOf(stations, planets, 3, 2)); e != want {
				t.Errorf("%d stations, %d planets: %d; want %d", stations, planets, e, want)
			}
		}
	}
	for holders := -1; holders <= 14; holders++ {
		for gear := -1; gear <= 14; gear++ {
			want := api.OK
			if holders < 1 || holders > 12 || gear < 0 || gear >= holders {
				want = api.ErrRange
			}
			if e := rack.CheckRack(rackOf(4, 2, holders, gear)); e != want {
				t.Errorf("%d holders, the gear %d: %d; want %d", holders, gear, e, want)
			}
		}
	}
	if e := rack.CheckRack(api.Rack{}); e != api.ErrRange {
		t.Errorf("no rack: %d", e)
	}
	wantDefects(t, "Period", greatest, rackDefects(), errorOf(t, rack.Period))
}

// turned is the arguments of functions that follow the parts of a rack.
type turned struct {
	rack   api.Rack
	flow   [][]int
	part   [2]int
	number int // of steps, or a thickness
	blades []int
}

// rightTurned is right arguments at the ends of what is right.
func rightTurned() turned {
	return turned{rack: rackOf(3, 3, 2, 1), flow: [][]int{{0, 100}, {100, 100}, {0, 0}}, part: [2]int{2, 1}, number: 1000000, blades: []int{2, 0, 1}}
}

// turnedRackDefects returns the defects of a rack among other arguments.
func turnedRackDefects() []defect[turned] {
	return within("rack", func(x *turned) *api.Rack { return &x.rack }, []defect[api.Rack]{
		{"Stations", func(x *api.Rack) { x.Stations = 25 }, api.ErrRange, 0},
		{"Holders", func(x *api.Rack) { x.Holders = 0 }, api.ErrRange, 0},
		{"Gear", func(x *api.Rack) { x.Gear = 2 }, api.ErrRange, 0},
		{"no multiple", func(x *api.Rack) { x.Stations, x.Planets, x.Holders, x.Gear = 3, 2, 2, 0 }, api.ErrForm, 0},
	})
}

// flowDefects returns the defects of a flow for 3 stations and 2 holders.
func flowDefects() []defect[turned] {
	return within("flow", func(x *turned) *[][]int { return &x.flow }, slices.Concat(
		lengthDefects[[]int](3),
		tableDefects(3, 2, 100, false),
	))
}

// partDefects returns the defects of a part of a rack with 3 planets and 2 holders.
func partDefects() []defect[turned] {
	return slices.Concat(
		within("planet", func(x *turned) *int { return &x.part[0] }, beyond(0, 2, api.ErrMissing)),
		within("holder", func(x *turned) *int { return &x.part[1] }, beyond(0, 1, api.ErrMissing)),
	)
}

// stepDefects returns the defects of steps.
func stepDefects() []defect[turned] {
	return within("steps", func(x *turned) *int { return &x.number }, beyond(0, 1000000, api.ErrRange))
}

// P9.1: the errors of CheckFlow: of the rack, of the rows.
func TestFlowDefects(t *testing.T) {
	wantDefects(t, "CheckFlow", rightTurned, slices.Concat(turnedRackDefects(), flowDefects()), func(x turned) (int, api.Errno) {
		return notTold, rack.CheckFlow(x.rack, x.flow)
	})
	for _, flow := range [][][]int{nothing(plain()), plainFlow(), slices.Repeat([][]int{{100, 100}}, 4)} {
		if e := rack.CheckFlow(plain(), flow); e != api.OK {
			t.Errorf("%v: %d", flow, e)
		}
	}
	if e := rack.CheckFlow(greatest(), slices.Repeat([][]int{slices.Repeat([]int{100}, 12)}, 24)); e != api.OK {
		t.Errorf("the greatest rack: %d", e)
	}
	if e := rack.CheckFlow(least(), [][]int{{0}}); e != api.OK {
		t.Errorf("the least rack: %d", e)
	}
}

// P9.1: the errors of PlaceAt and Visits: of the rack, of the part, of the steps.
func TestPlaceDefects(t *testing.T) {
	defects := slices.Concat(turnedRackDefects(), partDefects(), stepDefects())
	wantDefects(t, "PlaceAt", rightTurned, defects, errorOf(t, func(x turned) ([2]int, api.Errno) { return rack.PlaceAt(x.rack, x.part, x.number) }))
	wantDefects(t, "Visits", rightTurned, defects, errorOf(t, func(x turned) ([][]int, api.Errno) { return rack.Visits(x.rack, x.part, x.number) }))
	for _, part := range [][2]int{{2, 0}, {0, 2}, {-1, 0}, {0, -1}, {math.MaxInt, 0}, {0, math.MinInt}} {
		got, e := rack.PlaceAt(plain(), part, 0)
		wantSame(t, "no part", got, e, [2]int{}, api.ErrMissing)
	}
}
