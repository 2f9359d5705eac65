package grow_test

import (
	"math/big"

	"etalon/api"
)

// What follows finds results once more, straight from the chapter's definitions, with fractions of any size.

func rat(n int) *big.Rat          { return new(big.Rat).SetInt64(int64(n)) }
func plus(a, b *big.Rat) *big.Rat { return new(big.Rat).Add(a, b) }
func by(a, b *big.Rat) *big.Rat   { return new(big.Rat).Quo(a, b) }

// times returns the product of numbers.
func times(numbers ...int) *big.Rat {
	all := rat(1)
	for _, n := range numbers {
		all.Mul(all, rat(n))
	}
	return all
}

// floor is exact: the denominator is above 0, so Div rounds down.
func floor(a *big.Rat) int { return int(new(big.Int).Div(a.Num(), a.Denom()).Int64()) }
func ceil(a *big.Rat) int  { return -floor(new(big.Rat).Neg(a)) }

// bookQuarters returns the thickness of quarters.
func bookQuarters(q api.GrowQuarter) *big.Rat {
	return by(times(q.Order, q.Wave, 10000), times(4, q.Index))
}

// bookMoments returns the seconds of a track, from the beginning on, and the thicknesses in thousandths then.
func bookMoments(t api.GrowTrack) (seconds []int, thick []api.Range) {
	seconds, thick = []int{0}, []api.Range{{}}
	for _, r := range t.Readings {
		seconds = append(seconds, r.Second)
		thick = append(thick, span(1000*(r.Thick-t.Error), 1000*(r.Thick+t.Error)))
	}
	return seconds, thick
}

// bookContradiction returns the first two readings that contradict, the beginning being -1, and whether there are any.
func bookContradiction(t api.GrowTrack) ([2]int, bool) {
	seconds, thick := bookMoments(t)
	for i := range seconds {
		for j := i + 1; j < len(seconds); j++ {
			went := seconds[j] - seconds[i]
			if thick[i].Hi+t.Rate.Hi*went < thick[j].Lo || thick[i].Lo+t.Rate.Lo*went > thick[j].Hi {
				return [2]int{i - 1, j - 1}, true
			}
		}
	}
	return [2]int{}, false
}

// bookTracked returns the enclosures of a track that has growths: what each reading leaves of each one.
func bookTracked(t api.GrowTrack) []api.Range {
	seconds, thick := bookMoments(t)
	var l []api.Range
	for i := range seconds[1:] {
		here := i + 1
		all := thick[here]
		for j := range seconds {
			went := seconds[here] - seconds[j]
			lo, hi := thick[j].Lo+t.Rate.Lo*went, thick[j].Hi+t.Rate.Hi*went
			if went < 0 {
				lo, hi = thick[j].Lo+t.Rate.Hi*went, thick[j].Hi+t.Rate.Lo*went
			}
			all = span(max(all.Lo, lo), min(all.Hi, hi))
		}
		l = append(l, all)
	}
	return l
}

// bookStretch is a stretch: its way ("up", "down" or "open"), and its first sample; until is the one behind it.
type bookStretch struct {
	way          string
	first, until int
}

// bookStretches returns all stretches of a signal.
func bookStretches(s api.GrowSignal) []bookStretch {
	l := []bookStretch{{way: "open"}}
	noise := float64(s.Noise)
	for i := 1; i < len(s.Samples); i++ {
		here := &l[len(l)-1]
		x := float64(s.Samples[i])
		top, bottom := x, x
		for _, y := range s.Samples[here.first:i] {
			top, bottom = max(top, float64(y)), min(bottom, float64(y))
		}
		if here.way != "down" && top-x > 2*noise {
			here.until = i
			l = append(l, bookStretch{way: "down", first: i})
		} else if here.way != "up" && x-bottom > 2*noise {
			here.until = i
			l = append(l, bookStretch{way: "up", first: i})
		}
	}
	return l
}

// bookTurns returns all turns of a signal: the ends of its stretches that go up or down.
func bookTurns(s api.GrowSignal) []api.GrowTurn {
	var turns []api.GrowTurn
	stretches := bookStretches(s)
	for _, x := range stretches[:len(stretches)-1] {
		if x.way == "open" {
			continue
		}
		turn := api.GrowTurn{Top: x.way == "up", From: -1, Seen: x.until}
		for i := x.first; i < x.until; i++ {
			if bookIsNear(s, x, i) {
				turn.To = i
				if turn.From < 0 {
					turn.From = i
				}
			}
		}
		turns = append(turns, turn)
	}
	return turns
}

// bookIsNear says whether a sample of a stretch is at most 2 Noise away from its greatest, or least one.
func bookIsNear(s api.GrowSignal, x bookStretch, i int) bool {
	for _, y := range s.Samples[x.first:x.until] {
		away := y - s.Samples[i]
		if x.way == "down" {
			away = -away
		}
		if away > float32(2*s.Noise) {
			return false
		}
	}
	return true
}

// bookIsBroken says whether a rule is broken in a state.
func bookIsBroken(r api.GrowRule, state []bool) bool {
	return state[r.If] == r.IfOn && state[r.Then] != r.ThenOn
}

// bookFirstBroken returns the number of the first rule that is broken in a state, -1 if it is safe.
func bookFirstBroken(c api.GrowChamber, state []bool) int {
	for i, r := range c.Rules {
		if bookIsBroken(r, state) {
			return i
		}
	}
	return -1
}

// bookState returns the state of a chamber with a number.
func bookState(c api.GrowChamber, number int) []bool {
	var state []bool
	for range c.Devices {
		state = append(state, number%2 == 1)
		number /= 2
	}
	return state
}

// bookNumber returns the number of a state.
func bookNumber(state []bool) int {
	number, power := 0, 1
	for _, on := range state {
		if on {
			number += power
		}
		power *= 2
	}
	return number
}

// bookSwitched returns a state with devices switched, one after the other.
func bookSwitched(state []bool, devices ...int) []bool {
	state = append([]bool(nil), state...)
	for _, device := range devices {
		state[device] = !state[device]
	}
	return state
}

// bookIsRight says whether a sequence is right.
func bookIsRight(c api.GrowChamber, x api.GrowChange, l []int) bool {
	for i := range len(l) + 1 {
		if bookFirstBroken(c, bookSwitched(x.From, l[:i]...)) >= 0 {
			return false
		}
	}
	return same(bookSwitched(x.From, l...), x.To)
}

// bookLabelsRight says whether labels are right.
func bookLabelsRight(c api.GrowChamber, x api.GrowChange, labels []int) bool {
	for number, label := range labels {
		state := bookState(c, number)
		if bookFirstBroken(c, state) >= 0 {
			continue
		}
		for device := range c.Devices {
			next := bookSwitched(state, device)
			if bookFirstBroken(c, next) < 0 && labels[bookNumber(next)] > label+1 {
				return false
			}
		}
	}
	return labels[bookNumber(x.From)] == 0
}

// bookDistances returns by how few switches each safe state leads to the state To, -1 if by none: what is known is
// handed on, until nothing changes.
func bookDistances(c api.GrowChamber, x api.GrowChange) []int {
	far := make([]int, 1<<len(c.Devices))
	for i := range far {
		far[i] = -1
	}
	far[bookNumber(x.To)] = 0
	for changed := true; changed; {
		changed = false
		for number := range far {
			state := bookState(c, number)
			if bookFirstBroken(c, state) >= 0 {
				continue
			}
			for device := range c.Devices {
				next := far[bookNumber(bookSwitched(state, device))]
				if next >= 0 && (far[number] < 0 || far[number] > next+1) {
					far[number], changed = next+1, true
				}
			}
		}
	}
	return far
}

// bookSequence returns the first one of the shortest right sequences of a change, and whether there is one.
func bookSequence(c api.GrowChamber, x api.GrowChange) ([]int, bool) {
	far := bookDistances(c, x)
	left := far[bookNumber(x.From)]
	if left < 0 {
		return nil, false
	}
	var l []int
	for state := x.From; left > 0; left-- {
		device := 0
		for far[bookNumber(bookSwitched(state, device))] != left-1 {
			device++
		}
		l = append(l, device)
		state = bookSwitched(state, device)
	}
	return l, true
}
