package grow

import (
	"slices"

	"etalon/api"
	"etalon/whole"
)

// CheckSignal returns the first error of a signal, with the number of the sample.
func CheckSignal(s api.GrowSignal) (int, api.Errno) {
	if !whole.Within(s.Noise, 0, api.MaxGrowSample) {
		return 0, api.ErrRange
	}
	if len(s.Samples) > api.MaxGrowSignal {
		return 0, api.ErrLarge
	}
	for i, x := range s.Samples {
		if !whole.IsWhole(float64(x)) {
			return i, api.ErrWhole
		}
		if x < 0 || x > api.MaxGrowSample {
			return i, api.ErrRange
		}
	}
	return 0, api.OK
}

// The ways of a stretch.
const (
	open = iota
	up
	down
)

// Turns returns all turns of a signal.
func Turns(s api.GrowSignal) ([]api.GrowTurn, api.Errno) {
	if _, e := CheckSignal(s); e != api.OK {
		return nil, e
	}
	var samples []int
	for _, x := range s.Samples {
		samples = append(samples, int(x))
	}
	var turns []api.GrowTurn
	// Numbers that are at most this far apart may come from one true number.
	far := 2 * s.Noise
	way, first := open, 0
	for i, x := range samples {
		stretch := samples[first : i+1]
		top, bottom := slices.Max(stretch), slices.Min(stretch)
		switch {
		case way != down && top-x > far:
			if way == up {
				turns = append(turns, turnOf(true, samples, first, i, func(x int) bool { return x >= top-far }))
			}
			way, first = down, i
		case way != up && x-bottom > far:
			if way == down {
				turns = append(turns, turnOf(false, samples, first, i, func(x int) bool { return x <= bottom+far }))
			}
			way, first = up, i
		}
	}
	return turns, api.OK
}

// turnOf returns the turn of the stretch from the sample first to the one before seen. It was at one of the samples for
// which it is possible; for some of them it is.
func turnOf(top bool, samples []int, first, seen int, possible func(x int) bool) api.GrowTurn {
	from, to := first, seen-1
	for !possible(samples[from]) {
		from++
	}
	for !possible(samples[to]) {
		to--
	}
	return api.GrowTurn{Top: top, From: from, To: to, Seen: seen}
}
