package grow

import (
	"iter"
	"slices"

	"etalon/api"
	"etalon/errs"
	"etalon/whole"
)

// mostSwitches is how many switches a sequence may have.
const mostSwitches = 1000

// change is a right change of a chamber, with the numbers of its states.
type change struct {
	api.GrowChamber
	from, to int
}

// changeOf returns a right change, or the first error of the chamber and the change.
func changeOf(c api.GrowChamber, x api.GrowChange) (change, api.Errno) {
	if e := errs.First(checkState(c, x.From), checkState(c, x.To)); e != api.OK {
		return change{}, e
	}
	right := change{c, numberOf(x.From), numberOf(x.To)}
	if !right.isSafe(right.from) || !right.isSafe(right.to) {
		return change{}, api.ErrBreak
	}
	return right, api.OK
}

// isSafe says whether no rule is broken in the state with a number.
func (x change) isSafe(state int) bool { return !slices.ContainsFunc(x.Rules, breaks(state)) }

// states returns how many numbers of states there are.
func (x change) states() int { return 1 << len(x.Devices) }

// neighbours yields the safe states that one switch leads to, with the device that is switched.
func (x change) neighbours(state int) iter.Seq2[int, int] {
	return func(yield func(device, neighbour int) bool) {
		for device := range x.Devices {
			if next := switched(state, device); x.isSafe(next) && !yield(device, next) {
				return
			}
		}
	}
}

// Sequence returns the right sequence of a change with the fewest switches, and labels that prove this, or, beside
// ErrNone, that there is none.
func Sequence(c api.GrowChamber, x api.GrowChange) ([]int, []int, api.Errno) {
	right, e := changeOf(c, x)
	if e != api.OK {
		return nil, nil, e
	}
	labels, last := right.search()
	if labels[right.to] == api.GrowFar {
		return nil, labels, api.ErrNone
	}
	var sequence []int
	for state := right.to; state != right.from; state = switched(state, last[state]) {
		sequence = append(sequence, last[state])
	}
	slices.Reverse(sequence)
	return sequence, labels, api.OK
}

// search returns for each state by how few switches it can be reached, GrowFar if by none, and the last one of these
// switches.
func (x change) search() (labels, last []int) {
	labels, last = slices.Repeat([]int{api.GrowFar}, x.states()), make([]int, x.states())
	labels[x.from] = 0
	// States come in the order of their lengths, those of one length in that of their first sequences: so the first
	// state from which another one is reached is that of its first sequence.
	reached := []int{x.from}
	for i := 0; i < len(reached); i++ {
		state := reached[i]
		for device, next := range x.neighbours(state) {
			if labels[next] == api.GrowFar {
				labels[next], last[next] = labels[state]+1, device
				reached = append(reached, next)
			}
		}
	}
	return labels, last
}

// CheckSequence accepts a right sequence of a change, and returns how many switches there are.
func CheckSequence(c api.GrowChamber, x api.GrowChange, l []int) (int, api.Errno) {
	right, e := changeOf(c, x)
	if e != api.OK {
		return 0, e
	}
	if len(l) > mostSwitches {
		return 0, api.ErrLarge
	}
	state := right.from
	for _, device := range l {
		if !hasDevice(c, device) {
			return 0, api.ErrMissing
		}
		state = switched(state, device)
		if !right.isSafe(state) {
			return 0, api.ErrBreak
		}
	}
	if state != right.to {
		return 0, api.ErrOpen
	}
	return len(l), api.OK
}

// CheckLabels accepts right labels of a change, and returns that of the last state.
func CheckLabels(c api.GrowChamber, x api.GrowChange, labels []int) (int, api.Errno) {
	right, e := changeOf(c, x)
	if e != api.OK {
		return 0, e
	}
	if len(labels) != right.states() {
		return 0, api.ErrShape
	}
	if slices.ContainsFunc(labels, func(label int) bool { return !whole.Within(label, 0, api.GrowFar) }) {
		return 0, api.ErrRange
	}
	if !right.hasLabels(labels) {
		return 0, api.ErrProof
	}
	return labels[right.to], api.OK
}

// hasLabels says whether labels, one for each state, are right.
func (x change) hasLabels(labels []int) bool {
	for state, label := range labels {
		if !x.isSafe(state) {
			continue
		}
		for _, next := range x.neighbours(state) {
			if labels[next] > label+1 {
				return false
			}
		}
	}
	return labels[x.from] == 0
}
