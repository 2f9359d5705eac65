package rack_test

import (
	"math/big"
	"slices"
	"testing"

	"etalon/api"
	"etalon/rack"
)

// wantBest asks for a best mask, whether it is accepted and has this value, and whether the weights beside it are right
// and have this bound: by the functions that check them, and by the definition. It returns the value.
func wantBest(t *testing.T, name string, x api.MaskTask) *big.Rat {
	t.Helper()
	m, w, got, e := rack.BestMask(x)
	if e != api.OK {
		t.Fatalf("%s, %v: the error %d", name, x, e)
	}
	value, errno := rack.CheckMask(x, m)
	wantSame(t, name+": the mask", value, errno, got, api.OK)
	bound, errno := rack.CheckWeights(x, w)
	wantSame(t, name+": the weights", bound, errno, got, api.OK)
	// Both checks have looked at the lengths and limits.
	truly, accepted := bookMask(x, m)
	if !accepted || pair(truly) != got {
		t.Errorf("%s, %v: the mask %v has %v, %v; want %v", name, x, m, truly, accepted, got)
	}
	truly, right := bookWeights(x, w)
	if !right || pair(truly) != got {
		t.Errorf("%s, %v: the weights %v have %v, %v; want %v", name, x, w, truly, right, got)
	}
	return truly
}

// P9.3: BestMask.
func TestBestMask(t *testing.T) {
	for _, x := range []struct {
		name     string
		task     api.MaskTask
		num, den int
	}{
		{"the chapter's example", task(0, 1, []int{4, 0}, []int{0, 2}), 2, 1},
		{"with some slack", task(1, 4, []int{4, 0}, []int{0, 2}), 2, 1},
		{"three rows", three(1, 3), 3, 1},
		{"three rows without slack", three(0, 1), 0, 1},
		{"three rows with too little slack", three(1, 4), 0, 1},
		{"three rows with half", three(1, 2), 3, 1},
		{"three rows with all", three(1, 1), 3, 1},
		{"two rows, no blade for itself", task(0, 1, []int{15, 5}, []int{5, 15}), 20, 1},
		{"one row", task(0, 1, []int{1, 10, 100}), 111, 1},
		{"one number", task(0, 1, []int{100}), 100, 1},
		{"one number, 0", task(0, 1, []int{0}), 0, 1},
		{"nothing in all rows", task(1, 1, []int{0, 0, 0}, []int{0, 0, 0}), 0, 1},
		{"nothing in a row", task(1, 1, []int{1, 2, 3}, []int{0, 0, 0}), 0, 1},
		{"one number in two rows, alike", task(0, 1, []int{7}, []int{7}), 7, 1},
		{"one number in two rows", task(0, 1, []int{7}, []int{8}), 0, 1},
		{"one number in two rows, with enough slack", task(1, 4, []int{8}, []int{10}), 8, 1},
		{"one number in two rows, with too little", task(1, 4, []int{7}, []int{9}), 0, 1},
		{"one number in two rows, twice as much", task(1, 1, []int{50}, []int{100}), 50, 1},
		{"one number in two rows, more than twice", task(1, 1, []int{49}, []int{99}), 0, 1},
		{"a row for each blade", task(0, 1, []int{100, 0, 0}, []int{0, 99, 0}, []int{0, 0, 97}), 97, 1},
		{"a row for each blade, and one more", task(0, 1, []int{4, 0, 0}, []int{0, 4, 0}, []int{0, 0, 4}, []int{2, 1, 1}), 4, 1},
		{"two rows that need a blade in part", task(0, 1, []int{10, 3}, []int{4, 7}), 58, 6},
		{"six rows", task(1, 4, []int{100, 0, 50}, []int{0, 100, 50}, []int{50, 50, 50}, []int{60, 40, 60}, []int{40, 60, 40}, []int{50, 50, 40}), 140, 1},
		{"six rows that are alike", task(0, 1, slices.Repeat([][]int{{100, 100, 100}}, 6)...), 300, 1},
	} {
		value := wantBest(t, x.name, x.task)
		if value.Cmp(fraction(x.num, x.den)) != 0 {
			t.Errorf("%s: %v; want %d / %d", x.name, value, x.num, x.den)
		}
	}
}

// P9.3: the best mask and its weights prove each other, for all tables of a few small numbers and for drawn ones; their
// numbers are within the limits also for large ones.
func TestBestMaskProved(t *testing.T) {
	for number := range 4 * 4 * 4 * 4 {
		table := [][]int{{number % 4, number / 4 % 4}, {number / 16 % 4, number / 64}}
		for _, slack := range slacks() {
			wantBest(t, "two rows of two", api.MaskTask{Table: table, Slack: slack})
		}
	}
	r := draws(40)
	seen := map[bool]int{}
	for range 4000 {
		value := wantBest(t, "drawn", drawnTask(r))
		seen[value.Sign() > 0]++
	}
	wantSeen(t, "values above 0", seen[true], 1000)
	wantSeen(t, "values of 0", seen[false], 500)
	for range 1000 {
		x := drawnTask(r)
		for _, row := range x.Table {
			for i := range row {
				row[i] = 100 - r.IntN(4)*r.IntN(26)
			}
		}
		wantBest(t, "great numbers", x)
	}
}

// P9.8: no accepted mask of a grid has a value greater than the best one; one that is met by the grid has it.
func TestBestMaskOfGrid(t *testing.T) {
	r := draws(41)
	met := 0
	const steps = 12
	for range 400 {
		x := drawnTask(r)
		best := wantBest(t, "drawn", x)
		greatest := rat(0)
		for number := range (steps + 1) * (steps + 1) * (steps + 1) {
			m := mask(steps, number%(steps+1), number/(steps+1)%(steps+1), number/(steps+1)/(steps+1))
			m.Open = m.Open[:len(x.Table[0])]
			if value, e := rack.CheckMask(x, m); e == api.OK && fraction(value[0], value[1]).Cmp(greatest) > 0 {
				greatest = fraction(value[0], value[1])
			}
		}
		if greatest.Cmp(best) > 0 {
			t.Errorf("%v: %v, and %v of the grid", x, best, greatest)
		}
		if greatest.Sign() > 0 && greatest.Cmp(best) == 0 {
			met++
		}
	}
	wantSeen(t, "values that the grid has", met, 50)
}

// P9.8: no accepted mask has a value greater than the bound of any right weights.
func TestNoValueBeyondBound(t *testing.T) {
	r := draws(42)
	seen := 0
	for range 6000 {
		x := drawnTask(r)
		w := drawnWeights(r, x)
		bound, e := rack.CheckWeights(x, w)
		if e != api.OK {
			continue
		}
		den := 1 + r.IntN(5)
		m := mask(den)
		for range x.Table[0] {
			m.Open = append(m.Open, den-r.IntN(den+1)/2)
		}
		value, e := rack.CheckMask(x, m)
		if e != api.OK {
			continue
		}
		seen++
		if fraction(value[0], value[1]).Cmp(fraction(bound[0], bound[1])) > 0 {
			t.Errorf("%v: %v of the mask %v, %v of the weights %v", x, value, m, bound, w)
		}
	}
	wantSeen(t, "masks and weights", seen, 500)
}

// P9.8: with a greater slack the best value is not less; a row more makes it no greater, a row twice the same, and so is
// that of rows and blades in another order.
func TestBestMaskOfOthers(t *testing.T) {
	r := draws(43)
	for range 500 {
		x := drawnTask(r)
		before := rat(0)
		for i, slack := range slacks() {
			x.Slack = slack
			value := wantBest(t, "a slack", x)
			if i > 0 && value.Cmp(before) < 0 {
				t.Errorf("%v: %v, %v with less slack", x, value, before)
			}
			before = value
		}
		turned := api.MaskTask{Table: copied(x.Table), Slack: x.Slack}
		slices.Reverse(turned.Table)
		for _, row := range turned.Table {
			slices.Reverse(row)
		}
		if value := wantBest(t, "in another order", turned); value.Cmp(before) != 0 {
			t.Errorf("%v: %v; %v in another order", x, before, value)
		}
		if len(x.Table) == 6 {
			continue
		}
		more := api.MaskTask{Table: append(copied(x.Table), x.Table[0]), Slack: x.Slack}
		if value := wantBest(t, "a row twice", more); value.Cmp(before) != 0 {
			t.Errorf("%v: %v; %v with a row twice", x, before, value)
		}
		more.Table[len(x.Table)] = drawnTable(r, 1, len(x.Table[0]), 10)[0]
		if value := wantBest(t, "a row more", more); value.Cmp(before) > 0 {
			t.Errorf("%v: %v; %v with a row more", x, before, value)
		}
	}
}
