package rack_test

import (
	"math/big"
	"slices"

	"etalon/api"
)

// What follows finds results once more, straight from the chapter's definitions: step by step, choice by choice, with
// fractions of any size.

func rat(n int) *big.Rat { return new(big.Rat).SetInt64(int64(n)) }

func plus(a, b *big.Rat) *big.Rat  { return new(big.Rat).Add(a, b) }
func minus(a, b *big.Rat) *big.Rat { return new(big.Rat).Sub(a, b) }
func times(a, b *big.Rat) *big.Rat { return new(big.Rat).Mul(a, b) }

// fraction returns num / den.
func fraction(num, den int) *big.Rat { return new(big.Rat).Quo(rat(num), rat(den)) }

// pair returns the two numbers of a fraction in lowest terms.
func pair(f *big.Rat) [2]int { return [2]int{int(f.Num().Int64()), int(f.Denom().Int64())} }

// bookNext returns where a part is one step behind a place.
func bookNext(r api.Rack, place [2]int) [2]int {
	place[0], place[1] = place[0]+1, place[1]+r.Gear
	if place[0] == r.Stations {
		place[0] = 0
	}
	for place[1] >= r.Holders {
		place[1] -= r.Holders
	}
	return place
}

// bookStart returns where a part is at the step 0: the planets stand as far apart from each other.
func bookStart(r api.Rack, part [2]int) [2]int {
	place := [2]int{0, part[1]}
	for range part[0] {
		place[0] += r.Stations / r.Planets
	}
	return place
}

// bookPlaces returns the places of a part at so many steps.
func bookPlaces(r api.Rack, part [2]int, steps int) [][2]int {
	var l [][2]int
	for place := bookStart(r, part); len(l) < steps; place = bookNext(r, place) {
		l = append(l, place)
	}
	return l
}

// bookParts returns all parts of a rack.
func bookParts(r api.Rack) [][2]int {
	var l [][2]int
	for planet := range r.Planets {
		for holder := range r.Holders {
			l = append(l, [2]int{planet, holder})
		}
	}
	return l
}

// bookPeriod turns a rack until all parts are where they were.
func bookPeriod(r api.Rack) int {
	var start, now [][2]int
	for _, part := range bookParts(r) {
		start = append(start, bookStart(r, part))
	}
	now = slices.Clone(start)
	for steps := 1; ; steps++ {
		for i, place := range now {
			now[i] = bookNext(r, place)
		}
		if slices.Equal(now, start) {
			return steps
		}
	}
}

// bookVisits counts the visits of a part.
func bookVisits(r api.Rack, part [2]int, steps int) [][]int {
	table := make([][]int, r.Stations)
	for i := range table {
		table[i] = make([]int, r.Holders)
	}
	for _, place := range bookPlaces(r, part, steps) {
		table[place[0]][place[1]]++
	}
	return table
}

// bookThick adds up what a part gets.
func bookThick(r api.Rack, flow [][]int, part [2]int, steps int) int {
	sum := 0
	for _, place := range bookPlaces(r, part, steps) {
		sum += flow[place[0]][place[1]]
	}
	return sum
}

// bookTable returns the table of blades.
func bookTable(r api.Rack, flow [][]int, blades []int) [][]int {
	var table [][]int
	for holder := range r.Holders {
		row := make([]int, slices.Max(blades)+1)
		for _, place := range bookPlaces(r, [2]int{0, holder}, bookPeriod(r)) {
			row[blades[place[0]]] += flow[place[0]][place[1]]
		}
		table = append(table, row)
	}
	return table
}

// bookMask returns the value of a mask, and whether it is accepted.
func bookMask(t api.MaskTask, m api.RackMask) (value *big.Rat, accepted bool) {
	var least, greatest *big.Rat
	for _, row := range t.Table {
		thick := rat(0)
		for blade, n := range row {
			thick = plus(thick, times(rat(n), fraction(m.Open[blade], m.Den)))
		}
		if least == nil || thick.Cmp(least) < 0 {
			least = thick
		}
		if greatest == nil || thick.Cmp(greatest) > 0 {
			greatest = thick
		}
	}
	most := times(least, plus(rat(1), fraction(t.Slack.Num, t.Slack.Den)))
	return least, greatest.Cmp(most) <= 0
}

// bookWeights returns the bound of weights, and whether they are right.
func bookWeights(t api.MaskTask, w api.MaskWeights) (bound *big.Rat, right bool) {
	over := func(n int) *big.Rat { return fraction(n, w.Den) }
	all, bound := rat(0), rat(0)
	for _, n := range w.Low {
		all = plus(all, over(n))
	}
	for _, n := range w.High {
		all = minus(all, times(rat(t.Slack.Den+t.Slack.Num), over(n)))
	}
	right = all.Cmp(rat(1)) >= 0
	for blade, n := range w.Caps {
		bound = plus(bound, over(n))
		needed := rat(0)
		for i, row := range t.Table {
			needed = plus(needed, times(rat(row[blade]), over(w.Low[i])))
			needed = minus(needed, times(rat(row[blade]*t.Slack.Den), over(w.High[i])))
		}
		right = right && over(n).Cmp(needed) >= 0
	}
	return bound, right
}

// bookIsRight says whether an assignment is right.
func bookIsRight(l api.RackLoad, places []int) bool {
	for part, place := range places {
		if place >= 0 && !(slices.Contains(l.Parts[part].Fits, place) && !slices.Contains(places[:part], place)) {
			return false
		}
	}
	return true
}

// bookPlaced returns how many parts have a place.
func bookPlaced(places []int) int {
	n := 0
	for _, place := range places {
		if place >= 0 {
			n++
		}
	}
	return n
}

// bookMost returns how many parts, from one on, can have a place that is not taken yet: each one has none, or any that
// is left.
func bookMost(l api.RackLoad, part, taken int) int {
	if part == len(l.Parts) {
		return 0
	}
	most := bookMost(l, part+1, taken)
	for _, place := range l.Parts[part].Fits {
		if taken>>place&1 == 0 {
			most = max(most, 1+bookMost(l, part+1, taken|1<<place))
		}
	}
	return most
}

// bookIsCover says whether parts and places are a cover.
func bookIsCover(l api.RackLoad, c api.LoadCover) bool {
	for part, p := range l.Parts {
		for _, place := range p.Fits {
			if !slices.Contains(c.Parts, part) && !slices.Contains(c.Places, place) {
				return false
			}
		}
	}
	return true
}

// bookEvents returns the numbers of the events of a part, in a history.
func bookEvents(h []api.PartEvent, part string) []int {
	var l []int
	for i, x := range h {
		if x.Part == part {
			l = append(l, i)
		}
	}
	return l
}

// bookState returns the state of a part: its last event tells it.
func bookState(h []api.PartEvent, part string) api.PartState {
	var s api.PartState
	events := bookEvents(h, part)
	for _, i := range events {
		if h[i].Kind == api.EventStrip {
			s.Strips++
		}
	}
	if len(events) > 0 {
		last := h[events[len(events)-1]]
		s.Batch, s.Witness = last.Batch, last.Kind == api.EventWitness
	}
	return s
}

// bookErrno returns the error of an event of names behind a right history.
func bookErrno(h []api.PartEvent, x api.PartEvent) api.Errno {
	s := bookState(h, x.Part)
	switch {
	case x.Kind != api.EventStrip && s.Batch != "":
		return api.ErrState
	case x.Kind == api.EventStrip && x.Batch != "":
		return api.ErrForm
	case x.Kind == api.EventStrip && s.Batch == "":
		return api.ErrState
	case x.Kind == api.EventStrip && s.Strips >= 3:
		return api.ErrFull
	}
	return api.OK
}

// bookHistory returns the first error of a history of names, with the number of its event.
func bookHistory(h []api.PartEvent) (int, api.Errno) {
	for i, x := range h {
		if e := bookErrno(h[:i], x); e != api.OK {
			return i, e
		}
	}
	return 0, api.OK
}

// bookCoated returns the parts that are coated in a batch, in the order of their last events; only witness pieces, if
// these are asked for.
func bookCoated(h []api.PartEvent, batch string, witnesses bool) []string {
	var l []string
	for i, x := range h {
		if x.Batch == batch && len(bookEvents(h[i+1:], x.Part)) == 0 && (!witnesses || x.Kind == api.EventWitness) {
			l = append(l, x.Part)
		}
	}
	return l
}
