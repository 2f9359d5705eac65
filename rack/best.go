package rack

import (
	"slices"

	"etalon/api"
)

// value is the place of a mask's value among the unknowns, which are as many as this and one.
const value = api.MaxBlades

// unknowns are a number for how far each blade is open (one that there is not lets nothing through), and behind these
// one for the value.
type unknowns [value + 1]int

// bound says that unknowns, times its numbers and added up, are at most its limit.
type bound struct {
	numbers unknowns
	limit   int
}

// boundsOf returns the bounds that just the accepted masks of a right task keep, with values up to theirs: of each row,
// that the value is at most its thickness; of each row, that this is not too great for the value; of each blade, that
// it is open at most wholly; of each blade, that it is open at least not at all.
func boundsOf(t api.MaskTask) []bound {
	low, high := make([]bound, len(t.Table)), make([]bound, len(t.Table))
	for i, row := range t.Table {
		for blade, n := range row {
			low[i].numbers[blade], high[i].numbers[blade] = -n, t.Slack.Den*n
		}
		low[i].numbers[value], high[i].numbers[value] = 1, -oneAnd(t.Slack)
	}
	var open, shut [api.MaxBlades]bound
	for blade := range api.MaxBlades {
		open[blade].numbers[blade], open[blade].limit = 1, 1
		shut[blade].numbers[blade] = -1
	}
	return slices.Concat(low, high, open[:], shut[:])
}

// corner is bounds, as many as there are unknowns. Its point is where just their ends are reached.
type corner [value + 1]bound

// choices tells the numbers of as many of some bounds as a corner has, all choices one after the other, until one is
// taken.
func choices(bounds int, take func(chosen [value + 1]int) bool) {
	for a := range bounds {
		for b := range a {
			for c := range b {
				for d := range c {
					if take([...]int{a, b, c, d}) {
						return
					}
				}
			}
		}
	}
}

// cofactor returns the cofactor of the numbers of the bounds, at a row and a column. The numbers are at most 400 in size,
// those at the value at most 7, so all that is worked out of them stays far below MaxMaskDen.
func (c corner) cofactor(row, column int) int {
	// Three rows, or columns, that go round behind another one have been swapped an even number of times.
	n := func(i, j int) int { return c[(row+i)%len(c)].numbers[(column+j)%len(c)] }
	minor := n(1, 1)*(n(2, 2)*n(3, 3)-n(2, 3)*n(3, 2)) +
		n(1, 2)*(n(2, 3)*n(3, 1)-n(2, 1)*n(3, 3)) +
		n(1, 3)*(n(2, 1)*n(3, 2)-n(2, 2)*n(3, 1))
	if (row+column)%2 == 1 {
		return -minor
	}
	return minor
}

// solved returns the point of the corner, and how often each bound is to be taken so that, added up, they are one for the
// value alone; both are divided by den, at least 0. If den is 0 there is neither.
func (c corner) solved() (point, weights unknowns, den int) {
	for i, x := range c {
		weights[i] = c.cofactor(i, value)
		den += x.numbers[value] * weights[i]
		for j := range point {
			point[j] += x.limit * c.cofactor(i, j)
		}
	}
	if den < 0 {
		return point.opposite(), weights.opposite(), -den
	}
	return point, weights, den
}

func (x unknowns) opposite() unknowns {
	for i, n := range x {
		x[i] = -n
	}
	return x
}

// holds says whether unknowns that are divided by den keep a bound.
func (b bound) holds(x unknowns, den int) bool {
	all := 0
	for i, n := range b.numbers {
		all += n * x[i]
	}
	return all <= b.limit*den
}

// best returns the point of a corner that keeps all bounds, and weights of all bounds, none below 0, and 0 but for those
// of the corner; both are divided by den. Weighted and added up, the bounds say that the value is at most that of the
// point. Linear programs always have such a corner, if the value cannot grow without an end.
func best(bounds []bound) (point unknowns, weights []int, den int) {
	weights = make([]int, len(bounds))
	choices(len(bounds), func(chosen [value + 1]int) bool {
		var c corner
		for i, number := range chosen {
			c[i] = bounds[number]
		}
		at, times, by := c.solved()
		broken := func(b bound) bool { return !b.holds(at, by) }
		if by == 0 || slices.Min(times[:]) < 0 || slices.ContainsFunc(bounds, broken) {
			return false
		}
		for i, number := range chosen {
			weights[number] = times[i]
		}
		point, den = at, by
		return true
	})
	return point, weights, den
}

// BestMask returns an accepted mask, right weights whose bound is its value, and this value.
func BestMask(t api.MaskTask) (api.RackMask, api.MaskWeights, [2]int, api.Errno) {
	if e := CheckTask(t); e != api.OK {
		return api.RackMask{}, api.MaskWeights{}, [2]int{}, e
	}
	point, weights, den := best(boundsOf(t))
	rows, blades := len(t.Table), len(t.Table[0])
	mask := api.RackMask{Den: den, Open: slices.Clone(point[:blades])}
	proof := api.MaskWeights{
		Den:  den,
		Low:  slices.Clone(weights[:rows]),
		High: slices.Clone(weights[rows : 2*rows]),
		Caps: slices.Clone(weights[2*rows : 2*rows+blades]),
	}
	return mask, proof, lowest(point[value], den), api.OK
}
