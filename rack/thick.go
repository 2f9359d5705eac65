package rack

import (
	"slices"

	"etalon/api"
	"etalon/errs"
	"etalon/frac"
	"etalon/whole"
)

// Thickness returns the thickness of a part after some steps.
func Thickness(r api.Rack, flow [][]int, x api.RackAsk) (int, api.Errno) {
	if e := CheckFlow(r, flow); e != api.OK {
		return 0, e
	}
	part, e := riderFor(r, x.Part, x.Steps)
	if e != api.OK {
		return 0, e
	}
	return part.thickness(flow, x.Steps), api.OK
}

// AllThick returns the thicknesses of all parts after some steps, planet by planet, holder by holder.
func AllThick(r api.Rack, flow [][]int, steps int) ([][]int, api.Errno) {
	if e := errs.First(CheckFlow(r, flow), checkSteps(steps)); e != api.OK {
		return nil, e
	}
	table := zeros(r.Planets, r.Holders)
	for planet, row := range table {
		for holder := range row {
			row[holder] = rider{r, planet, holder}.thickness(flow, steps)
		}
	}
	return table, api.OK
}

// StepsFor returns the least number of steps behind which a part has at least a thickness.
func StepsFor(r api.Rack, flow [][]int, x api.RackWish) (int, api.Errno) {
	if e := CheckFlow(r, flow); e != api.OK {
		return 0, e
	}
	part, e := riderOf(r, x.Part)
	if e != api.OK {
		return 0, e
	}
	if !whole.Within(x.Thick, 0, api.MaxRackThick) {
		return 0, api.ErrRange
	}
	if x.Thick == 0 {
		return 0, api.OK
	}
	period := periodOf(r)
	each := part.thickness(flow, period)
	if each == 0 {
		return 0, api.ErrNone
	}
	// What these whole periods leave is above 0, and the next one reaches it.
	periods := (x.Thick - 1) / each
	return periods*period + part.stepsTo(flow, x.Thick-periods*each), api.OK
}

// stepsTo returns the least number of steps, at most those of a period, behind which the part has at least a thickness.
func (x rider) stepsTo(flow [][]int, thick int) int {
	steps := 0
	for station, side := range x.places(periodOf(x.Rack)) {
		if thick <= 0 {
			break
		}
		thick -= flow[station][side]
		steps++
	}
	return steps
}

// Spread returns the spread of thicknesses.
func Spread(l []int) (api.Frac, api.Errno) {
	if len(l) == 0 {
		return api.Frac{}, api.ErrEmpty
	}
	if !areUpTo(api.MaxRackThick, l) {
		return api.Frac{}, api.ErrRange
	}
	least, greatest := slices.Min(l), slices.Max(l)
	if greatest == 0 {
		return api.Frac{}, api.ErrZero
	}
	// Two thicknesses together are at most MaxPart, so the fraction is small.
	return frac.Lowest(greatest-least, greatest+least), api.OK
}

// TableOf returns the table of blades.
func TableOf(r api.Rack, flow [][]int, blades []int) ([][]int, api.Errno) {
	if e := CheckFlow(r, flow); e != api.OK {
		return nil, e
	}
	if len(blades) != r.Stations {
		return nil, api.ErrShape
	}
	if !areUpTo(api.MaxBlades-1, blades) {
		return nil, api.ErrRange
	}
	table := zeros(r.Holders, slices.Max(blades)+1)
	for holder, row := range table {
		for station, side := range (rider{r, 0, holder}).places(periodOf(r)) {
			row[blades[station]] += flow[station][side]
		}
	}
	return table, api.OK
}
