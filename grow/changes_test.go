package grow_test

import (
	"math"
	"math/rand/v2"
	"slices"
	"testing"

	"etalon/api"
	"etalon/grow"
)

// change returns a change.
func change(from, to string) api.GrowChange {
	return api.GrowChange{From: state(from), To: state(to)}
}

// wantSequence asks for a sequence, and whether the labels beside it are accepted.
func wantSequence(t *testing.T, name string, c api.GrowChamber, x api.GrowChange, want ...int) {
	t.Helper()
	l, labels, e := grow.Sequence(c, x)
	wantSame(t, name, l, e, want, api.OK)
	wantLabels(t, name, c, x, labels, len(want))
	n, e := grow.CheckSequence(c, x, l)
	wantSame(t, name, n, e, len(want), api.OK)
}

// wantNoSequence asks for labels which prove that there is no sequence.
func wantNoSequence(t *testing.T, name string, c api.GrowChamber, x api.GrowChange) {
	t.Helper()
	l, labels, e := grow.Sequence(c, x)
	wantSame(t, name, l, e, nil, api.ErrNone)
	wantLabels(t, name, c, x, labels, 1000)
}

// wantLabels asks whether labels are right, by the definition and by CheckLabels.
func wantLabels(t *testing.T, name string, c api.GrowChamber, x api.GrowChange, labels []int, want int) {
	t.Helper()
	if len(labels) != 1<<len(c.Devices) || !bookLabelsRight(c, x, labels) || labels[bookNumber(x.To)] != want {
		t.Errorf("%s: the labels %v; want %d", name, labels, want)
	}
	if slices.Min(labels) < 0 || slices.Max(labels) > 1000 {
		t.Errorf("%s: the labels %v", name, labels)
	}
	n, e := grow.CheckLabels(c, x, labels)
	wantSame(t, name, n, e, want, api.OK)
}

// P8.6: Sequence.
func TestSequence(t *testing.T) {
	wantSequence(t, "the chapter's example", plain(), change("000", "111"), 2, 1, 0)
	wantSequence(t, "backwards", plain(), change("111", "000"), 0, 1, 2)
	wantSequence(t, "from a state to itself", plain(), change("011", "011"))
	wantSequence(t, "one switch", plain(), change("011", "111"), 0)
	wantSequence(t, "no devices", api.GrowChamber{}, change("", ""))
	wantSequence(t, "no rules: the first one of all", named(3), change("000", "111"), 0, 1, 2)
	wantSequence(t, "no rules: only what differs", named(4), change("0110", "1010"), 0, 1)
	wantSequence(t, "8 devices", named(8), change("00000000", "11111111"), 0, 1, 2, 3, 4, 5, 6, 7)
	wantSequence(t, "one of both is off", named(2, apart(0, 1)), change("10", "01"), 0, 1)
	wantSequence(t, "one of both is on", named(2, api.GrowRule{If: 0, Then: 1, ThenOn: true}), change("10", "01"), 1, 0)
	wantSequence(t, "one after the other", named(4, whenever(0, 1), whenever(1, 2), whenever(2, 3)), change("0000", "1111"), 3, 2, 1, 0)
	wantSequence(t, "the first one that can be", named(4, whenever(0, 3), whenever(1, 2)), change("0000", "1111"), 2, 1, 3, 0)
	wantSequence(t, "a device that stays off", named(3, never(1)), change("000", "101"), 0, 2)
	wantSequence(t, "a device that stays on", named(3, always(1)), change("010", "111"), 0, 2)
	wantSequence(t, "a rule that cannot be broken", named(2, whenever(0, 0), whenever(1, 1)), change("00", "11"), 0, 1)
	wantNoSequence(t, "both together", named(2, whenever(0, 1), whenever(1, 0)), change("00", "11"))
	wantNoSequence(t, "both in turn", named(2, apart(0, 1), api.GrowRule{If: 0, Then: 1, ThenOn: true}), change("10", "01"))
	wantNoSequence(t, "three in a ring", named(3, whenever(0, 1), whenever(1, 2), whenever(2, 0)), change("111", "000"))
	wantSequence(t, "three in a ring, one beside", named(4, whenever(0, 1), whenever(1, 2), whenever(2, 0)), change("1110", "1111"), 3)
	wantSequence(t, "from a state that leads nowhere to itself", named(2, whenever(0, 1), whenever(1, 0)), change("11", "11"))
}

// P8.6: CheckSequence accepts right sequences, also longer ones.
func TestCheckSequence(t *testing.T) {
	forth := change("000", "111")
	for _, x := range []struct {
		name   string
		change api.GrowChange
		list   []int
		want   int
		errno  api.Errno
	}{
		{"the shortest one", forth, []int{2, 1, 0}, 3, api.OK},
		{"a longer one", forth, []int{2, 1, 0, 0, 0}, 5, api.OK},
		{"with a way back", forth, []int{2, 2, 2, 1, 1, 1, 0}, 7, api.OK},
		{"1000 switches", change("001", "001"), slices.Repeat([]int{1}, 1000), 1000, api.OK},
		{"999 switches", change("001", "011"), slices.Repeat([]int{1}, 999), 999, api.OK},
		{"1001 switches", change("001", "011"), slices.Repeat([]int{1}, 1001), 0, api.ErrLarge},
		{"1001 wrong ones", change("001", "011"), slices.Repeat([]int{9}, 1001), 0, api.ErrLarge},
		{"none", change("001", "001"), nil, 0, api.OK},
		{"an empty list", change("001", "001"), []int{}, 0, api.OK},
		{"none, but another state", forth, nil, 0, api.ErrOpen},
		{"not to the end", forth, []int{2, 1}, 0, api.ErrOpen},
		{"beyond the end", forth, []int{2, 1, 0, 0}, 0, api.ErrOpen},
		{"the source first", forth, []int{1, 2, 0}, 0, api.ErrBreak},
		{"a rule is broken at last", forth, []int{2, 1, 0, 2}, 0, api.ErrBreak},
		{"a rule is broken, and another one", forth, []int{2, 0, 1}, 0, api.ErrBreak},
		{"a rule is broken on the way there and back", forth, []int{2, 1, 2, 2, 0}, 0, api.ErrBreak},
		{"no such device", forth, []int{3}, 0, api.ErrMissing},
		{"a device below 0", forth, []int{2, -1}, 0, api.ErrMissing},
		{"the greatest number", forth, []int{2, math.MaxInt}, 0, api.ErrMissing},
		{"the least number", forth, []int{2, math.MinInt}, 0, api.ErrMissing},
		{"no such device ahead of a rule", forth, []int{2, 3, 0}, 0, api.ErrMissing},
		{"a rule ahead of no such device", forth, []int{2, 0, 3}, 0, api.ErrBreak},
		{"no such device ahead of the end", forth, []int{2, 1, 0, 3}, 0, api.ErrMissing},
	} {
		got, e := grow.CheckSequence(plain(), x.change, x.list)
		wantSame(t, x.name, got, e, x.want, x.errno)
	}
	got, e := grow.CheckSequence(api.GrowChamber{}, api.GrowChange{}, nil)
	wantSame(t, "no devices", got, e, 0, api.OK)
	got, e = grow.CheckSequence(api.GrowChamber{}, api.GrowChange{}, []int{0})
	wantSame(t, "no such device", got, e, 0, api.ErrMissing)
}

// P8.6: CheckLabels accepts right labels, also those that are not the least ones.
func TestCheckLabels(t *testing.T) {
	// The safe states are 0 (all off), 4 (the pump), 6 (and the source) and 7 (and the shutter).
	forth := change("000", "111")
	for _, x := range []struct {
		name   string
		change api.GrowChange
		labels []int
		want   int
		errno  api.Errno
	}{
		{"how many switches there are", forth, []int{0, 1000, 1000, 1000, 1, 1000, 2, 3}, 3, api.OK},
		{"less than that", forth, []int{0, 1000, 1000, 1000, 1, 1000, 1, 1}, 1, api.OK},
		{"nothing at all", forth, []int{0, 0, 0, 0, 0, 0, 0, 0}, 0, api.OK},
		{"first more, then less", forth, []int{0, 0, 0, 0, 1, 0, 2, 1}, 1, api.OK},
		{"anything where a rule is broken", forth, []int{0, 17, 0, 5, 1, 1000, 2, 3}, 3, api.OK},
		{"from the other end", change("111", "000"), []int{3, 0, 0, 0, 2, 0, 1, 0}, 3, api.OK},
		{"from a state to itself", change("011", "011"), []int{2, 0, 0, 0, 1, 0, 0, 1}, 0, api.OK},
		{"one more", forth, []int{0, 0, 0, 0, 2, 0, 2, 3}, 0, api.ErrProof},
		{"one more behind it", forth, []int{0, 0, 0, 0, 1, 0, 3, 3}, 0, api.ErrProof},
		{"one more at last", forth, []int{0, 0, 0, 0, 1, 0, 2, 4}, 0, api.ErrProof},
		{"one less at last", forth, []int{0, 0, 0, 0, 1, 0, 2, 0}, 0, api.ErrProof},
		{"the first one is not 0", forth, []int{1, 0, 0, 0, 1, 0, 2, 3}, 0, api.ErrProof},
		{"all are 1", forth, []int{1, 1, 1, 1, 1, 1, 1, 1}, 0, api.ErrProof},
		{"far, although it can be reached", forth, []int{0, 0, 0, 0, 1000, 0, 1000, 1000}, 0, api.ErrProof},
		{"below 0", forth, []int{0, 0, 0, 0, -1, 0, 0, 0}, 0, api.ErrRange},
		{"below 0 where a rule is broken", forth, []int{0, -1, 0, 0, 1, 0, 2, 3}, 0, api.ErrRange},
		{"beyond 1000", forth, []int{0, 0, 0, 1001, 1, 0, 2, 3}, 0, api.ErrRange},
		{"the greatest number", forth, []int{0, 0, 0, 0, 1, 0, 2, math.MaxInt}, 0, api.ErrRange},
		{"the least number", forth, []int{math.MinInt, 0, 0, 0, 1, 0, 2, 3}, 0, api.ErrRange},
		{"the range ahead of the proof", forth, []int{1, 0, 0, 0, 9, 0, 2, -1}, 0, api.ErrRange},
		{"none", forth, nil, 0, api.ErrShape},
		{"an empty list", forth, []int{}, 0, api.ErrShape},
		{"too few", forth, []int{0, 0, 0, 0, 0, 0, 0}, 0, api.ErrShape},
		{"too many", forth, []int{0, 0, 0, 0, 0, 0, 0, 0, 0}, 0, api.ErrShape},
		{"too few ahead of the range", forth, []int{0, -1}, 0, api.ErrShape},
	} {
		got, e := grow.CheckLabels(plain(), x.change, x.labels)
		wantSame(t, x.name, got, e, x.want, x.errno)
	}
	got, e := grow.CheckLabels(api.GrowChamber{}, api.GrowChange{}, []int{0})
	wantSame(t, "no devices", got, e, 0, api.OK)
	got, e = grow.CheckLabels(api.GrowChamber{}, api.GrowChange{}, []int{1})
	wantSame(t, "no devices, a wrong label", got, e, 0, api.ErrProof)
	got, e = grow.CheckLabels(api.GrowChamber{}, api.GrowChange{}, nil)
	wantSame(t, "no devices, no labels", got, e, 0, api.ErrShape)
	both := named(2, whenever(0, 1), whenever(1, 0))
	for _, far := range []int{0, 1, 999, 1000} {
		got, e = grow.CheckLabels(both, change("00", "11"), []int{0, 3, 4, far})
		wantSame(t, "a state that is not reached may have any label", got, e, far, api.OK)
	}
}

// step is a chamber with a change, and a sequence or labels.
type step struct {
	api.GrowChamber
	change api.GrowChange
	list   []int
}

// P8.6: the errors of the chamber, of the states, of rules that these break.
func TestChangeDefects(t *testing.T) {
	right := func() step {
		x := step{rightChamber(), change("10001", "10101"), slices.Repeat([]int{1}, 32)}
		x.list[bookNumber(x.change.From)] = 0
		return x
	}
	// The devices 0 and 4 are on together only, the device 1 never.
	unsafe := func(x *step) { x.change.From = state("10000") }
	defects := slices.Concat(
		within("chamber", func(x *step) *api.GrowChamber { return &x.GrowChamber }, chamberDefects()),
		within("From", func(x *step) *[]bool { return &x.change.From }, shapeDefects()),
		within("To", func(x *step) *[]bool { return &x.change.To }, shapeDefects()),
		[]defect[step]{
			{"From is not safe", unsafe, api.ErrBreak, 0},
			{"To is not safe", func(x *step) { x.change.To = state("01000") }, api.ErrBreak, 0},
		},
	)
	wantDefects(t, "CheckLabels", right, defects, errorOf(t, func(x step) (int, api.Errno) { return grow.CheckLabels(x.GrowChamber, x.change, x.list) }))
	wantDefects(t, "CheckSequence", right, defects, errorOf(t, func(x step) (int, api.Errno) { return grow.CheckSequence(x.GrowChamber, x.change, []int{2}) }))
	wantDefects(t, "Sequence", right, defects, func(x step) (int, api.Errno) {
		l, labels, e := grow.Sequence(x.GrowChamber, x.change)
		if e != api.OK && (l != nil || labels != nil) {
			t.Errorf("%v, %v beside the error %d", l, labels, e)
		}
		return notTold, e
	})
	// These errors stand ahead of those of sequences and labels.
	x := right()
	unsafe(&x)
	n, e := grow.CheckSequence(x.GrowChamber, x.change, slices.Repeat([]int{9}, 1001))
	wantSame(t, "From ahead of the sequence", n, e, 0, api.ErrBreak)
	n, e = grow.CheckLabels(x.GrowChamber, x.change, nil)
	wantSame(t, "From ahead of the labels", n, e, 0, api.ErrBreak)
	contrary := named(1, never(0), always(0))
	_, _, e = grow.Sequence(contrary, change("0", "0"))
	wantSame(t, "no state is safe", 0, e, 0, api.ErrBreak)
}

// drawnChange returns a right change of a chamber, and whether there is one.
func drawnChange(r *rand.Rand, c api.GrowChamber) (api.GrowChange, bool) {
	var safe [][]bool
	for number := range 1 << len(c.Devices) {
		if s := bookState(c, number); bookFirstBroken(c, s) < 0 {
			safe = append(safe, s)
		}
	}
	if len(safe) == 0 {
		return api.GrowChange{}, false
	}
	return api.GrowChange{From: safe[r.IntN(len(safe))], To: safe[r.IntN(len(safe))]}, true
}

// firstOfAll returns the first right sequence of all lists of up to so many switches, in the order of their lengths, and
// whether there is one.
func firstOfAll(c api.GrowChamber, x api.GrowChange, most int) ([]int, bool) {
	lists := [][]int{nil}
	for range most + 1 {
		var longer [][]int
		for _, l := range lists {
			if bookIsRight(c, x, l) {
				return l, true
			}
			for device := range c.Devices {
				longer = append(longer, append(slices.Clone(l), device))
			}
		}
		lists = longer
	}
	return nil, false
}

// P8.6: of small chambers all lists are tried.
func TestSequencesOfAll(t *testing.T) {
	r := draws(60)
	found, none := 0, 0
	for range 4000 {
		c := drawnChamber(r, 3)
		x, ok := drawnChange(r, c)
		if !ok {
			continue
		}
		// A sequence that comes back to a state can be made shorter, so 7 switches are enough for 8 states.
		if want, there := firstOfAll(c, x, 7); there {
			wantSequence(t, "Sequence", c, x, want...)
			found++
		} else {
			wantNoSequence(t, "Sequence", c, x)
			none++
		}
	}
	wantSeen(t, "changes with a sequence", found, 500)
	wantSeen(t, "changes without one", none, 40)
}

// P8.6, P8.11: sequences are the first ones of the shortest ones; their labels are right; backwards they lead back.
func TestSequencesAgain(t *testing.T) {
	r := draws(61)
	var found, none, long int
	for range 1500 {
		c := drawnChamber(r, 8)
		x, ok := drawnChange(r, c)
		if !ok {
			continue
		}
		want, there := bookSequence(c, x)
		back := api.GrowChange{From: x.To, To: x.From}
		if !there {
			wantNoSequence(t, "Sequence", c, x)
			wantNoSequence(t, "backwards", c, back)
			none++
			continue
		}
		wantSequence(t, "Sequence", c, x, want...)
		found++
		if len(want) > 4 {
			long++
		}
		slices.Reverse(want)
		n, e := grow.CheckSequence(c, back, want)
		wantSame(t, "backwards", n, e, len(want), api.OK)
		l, _, _ := grow.Sequence(c, back)
		wantSame(t, "backwards", len(l), e, len(want), api.OK)
	}
	t.Log(found, none, long)
	wantSeen(t, "changes with a sequence", found, 800)
	wantSeen(t, "changes without one", none, 50)
	wantSeen(t, "long sequences", long, 20)
}

// P8.6: any labels are accepted just if they are right: those of Sequence, wrong at one place or at several ones.
func TestLabelsAgain(t *testing.T) {
	r := draws(62)
	var right, wrong int
	for range 6000 {
		c := drawnChamber(r, 5)
		x, ok := drawnChange(r, c)
		if !ok {
			continue
		}
		_, labels, _ := grow.Sequence(c, x)
		for range r.IntN(3) {
			i := r.IntN(len(labels))
			labels[i] = max(0, min(1000, labels[i]+drawnBetween(r, -2, 2)))
		}
		got, e := grow.CheckLabels(c, x, labels)
		if !bookLabelsRight(c, x, labels) {
			wantSame(t, "CheckLabels", got, e, 0, api.ErrProof)
			wrong++
			continue
		}
		wantSame(t, "CheckLabels", got, e, labels[bookNumber(x.To)], api.OK)
		right++
		// No right sequence has fewer switches than a right label says.
		if l, _, e := grow.Sequence(c, x); e == api.OK && len(l) < got {
			t.Fatalf("%v, %v: %v is shorter than %d", c, x, l, got)
		}
	}
	t.Log(right, wrong)
	wantSeen(t, "right labels", right, 1000)
	wantSeen(t, "wrong labels", wrong, 1000)
}

// P8.6, P8.11: a sequence is accepted just if it is right; from a safe state accepted switches lead to no state in which
// a rule is broken.
func TestSwitchesAgain(t *testing.T) {
	r := draws(63)
	var accepted, stopped int
	for range 4000 {
		c := drawnChamber(r, 5)
		x, ok := drawnChange(r, c)
		if !ok || len(c.Devices) == 0 {
			continue
		}
		here, l := x.From, []int(nil)
		for range r.IntN(12) {
			device := r.IntN(len(c.Devices))
			next, _, e := grow.Switched(c, here, device)
			if e != api.OK && r.IntN(20) > 0 {
				stopped++
				continue
			}
			l = append(l, device)
			if e != api.OK {
				break
			}
			here = next
			if bookFirstBroken(c, here) >= 0 {
				t.Fatalf("%v: %v from %v", c, l, x.From)
			}
		}
		if r.IntN(8) > 0 {
			x.To = here
		}
		n, e := grow.CheckSequence(c, x, l)
		if bookIsRight(c, x, l) {
			wantSame(t, "CheckSequence", n, e, len(l), api.OK)
			accepted++
		} else if n != 0 || e != api.ErrBreak && e != api.ErrOpen {
			t.Fatalf("%v, %v: %v: %d, %d", c, x, l, n, e)
		}
	}
	t.Log(accepted, stopped)
	wantSeen(t, "accepted sequences", accepted, 1000)
	wantSeen(t, "switches that are not accepted", stopped, 1000)
}
