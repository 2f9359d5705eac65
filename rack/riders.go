package rack

import (
	"iter"

	"etalon/api"
	"etalon/whole"
)

// rider is a part of a right rack.
type rider struct {
	api.Rack
	planet, holder int
}

// riderOf returns a part of a rack, or the first error of both.
func riderOf(r api.Rack, part [2]int) (rider, api.Errno) {
	if e := CheckRack(r); e != api.OK {
		return rider{}, e
	}
	if !whole.Within(part[0], 0, r.Planets-1) || !whole.Within(part[1], 0, r.Holders-1) {
		return rider{}, api.ErrMissing
	}
	return rider{r, part[0], part[1]}, api.OK
}

// riderFor returns a part of a rack that is to be followed for some steps, or the first error of all three.
func riderFor(r api.Rack, part [2]int, steps int) (rider, api.Errno) {
	x, e := riderOf(r, part)
	if e != api.OK {
		return rider{}, e
	}
	if e := checkSteps(steps); e != api.OK {
		return rider{}, e
	}
	return x, api.OK
}

// checkSteps checks how many steps there are.
func checkSteps(steps int) api.Errno {
	if !whole.Within(steps, 0, api.MaxRackSteps) {
		return api.ErrRange
	}
	return api.OK
}

// at returns the place of the part at a step.
func (x rider) at(step int) (station, side int) {
	return (step + x.planet*x.Stations/x.Planets) % x.Stations, (x.holder + x.Gear*step) % x.Holders
}

// places yields the places of the part, from the step 0 on, at so many steps.
func (x rider) places(steps int) iter.Seq2[int, int] {
	return func(yield func(station, side int) bool) {
		for step := range steps {
			if !yield(x.at(step)) {
				return
			}
		}
	}
}

// visits returns how often the part is at each place in some steps.
func (x rider) visits(steps int) [][]int {
	table := zeros(x.Stations, x.Holders)
	visit := func(steps, times int) {
		for station, side := range x.places(steps) {
			table[station][side] += times
		}
	}
	// Periods are alike, so one stands for all that are whole, and the steps behind them are the first ones of another.
	period := periodOf(x.Rack)
	visit(period, steps/period)
	visit(steps%period, 1)
	return table
}

// thickness returns the thickness of the part after some steps.
func (x rider) thickness(flow [][]int, steps int) int {
	sum := 0
	for station, row := range x.visits(steps) {
		for side, times := range row {
			sum += flow[station][side] * times
		}
	}
	return sum
}
