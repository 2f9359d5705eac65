package rack

import (
	"slices"

	"etalon/api"
	"etalon/frac"
	"etalon/whole"
)

// CheckTask returns the first error of a task.
func CheckTask(t api.MaskTask) api.Errno {
	if len(t.Table) == 0 {
		return api.ErrEmpty
	}
	if len(t.Table) > api.MaxMaskRows {
		return api.ErrLarge
	}
	blades := len(t.Table[0])
	if blades == 0 {
		return api.ErrEmpty
	}
	if blades > api.MaxBlades {
		return api.ErrLarge
	}
	if e := checkRows(t.Table, blades, api.MaxMaskTable); e != api.OK {
		return e
	}
	return checkSlack(t.Slack)
}

// checkSlack checks a slack.
func checkSlack(slack api.Frac) api.Errno {
	if !frac.IsLowest(slack) {
		return api.ErrForm
	}
	if !whole.Within(slack.Num, 0, slack.Den) || slack.Den > api.MaxMaskSlack {
		return api.ErrRange
	}
	return api.OK
}

// oneAnd returns 1 and the slack together, so many times the denominator of the slack.
func oneAnd(slack api.Frac) int { return slack.Den + slack.Num }

// CheckMask accepts a mask, and returns its value.
func CheckMask(t api.MaskTask, m api.RackMask) ([2]int, api.Errno) {
	if e := CheckTask(t); e != api.OK {
		return [2]int{}, e
	}
	if !whole.Within(m.Den, 1, api.MaxMaskDen) {
		return [2]int{}, api.ErrRange
	}
	if len(m.Open) != len(t.Table[0]) {
		return [2]int{}, api.ErrShape
	}
	if !areUpTo(m.Den, m.Open) {
		return [2]int{}, api.ErrRange
	}
	thick := thicknesses(t, m.Open)
	least, greatest := slices.Min(thick), slices.Max(thick)
	if greatest*t.Slack.Den > least*oneAnd(t.Slack) {
		return [2]int{}, api.ErrBreak
	}
	return lowest(least, m.Den), api.OK
}

// thicknesses returns the thicknesses of all rows, so many times the denominator of the mask.
func thicknesses(t api.MaskTask, open []int) []int {
	thick := make([]int, len(t.Table))
	for i, row := range t.Table {
		for blade, n := range row {
			thick[i] += n * open[blade]
		}
	}
	return thick
}

// lowest returns two numbers in lowest terms.
func lowest(num, den int) [2]int {
	f := frac.Lowest(num, den)
	return [2]int{f.Num, f.Den}
}

// CheckWeights accepts right weights, and returns their bound.
func CheckWeights(t api.MaskTask, w api.MaskWeights) ([2]int, api.Errno) {
	if e := CheckTask(t); e != api.OK {
		return [2]int{}, e
	}
	if !whole.Within(w.Den, 1, api.MaxMaskDen) {
		return [2]int{}, api.ErrRange
	}
	if rows := len(t.Table); len(w.Low) != rows || len(w.High) != rows || len(w.Caps) != len(t.Table[0]) {
		return [2]int{}, api.ErrShape
	}
	if !areUpTo(api.MaxMaskDen, w.Low, w.High, w.Caps) {
		return [2]int{}, api.ErrRange
	}
	if !areRight(t, w) {
		return [2]int{}, api.ErrProof
	}
	return lowest(sum(w.Caps), w.Den), api.OK
}

// areRight says whether weights within their limits are right.
func areRight(t api.MaskTask, w api.MaskWeights) bool {
	if sum(w.Low)-oneAnd(t.Slack)*sum(w.High) < w.Den {
		return false
	}
	for blade, limit := range w.Caps {
		needed := 0
		for i, row := range t.Table {
			needed += row[blade] * (w.Low[i] - t.Slack.Den*w.High[i])
		}
		if limit < needed {
			return false
		}
	}
	return true
}

// sum returns the sum of numbers.
func sum(l []int) int {
	all := 0
	for _, n := range l {
		all += n
	}
	return all
}
