package rack_test

import (
	"math"
	"math/rand/v2"
	"slices"
	"testing"

	"etalon/api"
	"etalon/rack"
)

// mostDen is the greatest denominator of masks and weights.
const mostDen = 1000000000000

// task returns a task.
func task(num, den int, table ...[]int) api.MaskTask {
	return api.MaskTask{Table: table, Slack: api.Frac{Num: num, Den: den}}
}

// mask returns a mask.
func mask(den int, open ...int) api.RackMask { return api.RackMask{Den: den, Open: open} }

// weights returns weights.
func weights(den int, low, high, caps []int) api.MaskWeights {
	return api.MaskWeights{Den: den, Low: low, High: high, Caps: caps}
}

// slacks are all slacks that there are.
func slacks() []api.Frac {
	return []api.Frac{{Num: 0, Den: 1}, {Num: 1, Den: 4}, {Num: 1, Den: 3}, {Num: 1, Den: 2}, {Num: 2, Den: 3}, {Num: 3, Den: 4}, {Num: 1, Den: 1}}
}

// drawnTask returns a task, often with numbers that are alike, or 0.
func drawnTask(r *rand.Rand) api.MaskTask {
	most := []int{1, 3, 10, 100}[r.IntN(4)]
	return api.MaskTask{Table: drawnTable(r, 1+r.IntN(6), 1+r.IntN(3), most), Slack: slacks()[r.IntN(7)]}
}

// three is the table of the chapter's fifth example.
func three(num, den int) api.MaskTask { return task(num, den, []int{3, 1}, []int{1, 3}, []int{2, 1}) }

// P9.3: CheckMask.
func TestCheckMask(t *testing.T) {
	two := task(0, 1, []int{4, 0}, []int{0, 2})
	for _, x := range []struct {
		name  string
		task  api.MaskTask
		mask  api.RackMask
		want  [2]int
		errno api.Errno
	}{
		{"the chapter's example", two, mask(2, 1, 2), [2]int{2, 1}, api.OK},
		{"in other terms", two, mask(6, 3, 6), [2]int{2, 1}, api.OK},
		{"half of it", two, mask(4, 1, 2), [2]int{1, 1}, api.OK},
		{"a third of it", two, mask(6, 1, 2), [2]int{2, 3}, api.OK},
		{"all blades shut", two, mask(2, 0, 0), [2]int{0, 1}, api.OK},
		{"one a little too far", two, mask(1000, 501, 1000), [2]int{}, api.ErrBreak},
		{"the other one not far enough", two, mask(1000, 500, 999), [2]int{}, api.ErrBreak},
		{"one shut", two, mask(2, 1, 0), [2]int{}, api.ErrBreak},
		{"all open, with the slack 1", task(1, 1, []int{4, 0}, []int{0, 2}), mask(1, 1, 1), [2]int{2, 1}, api.OK},
		{"all open, with less", task(3, 4, []int{4, 0}, []int{0, 2}), mask(1, 1, 1), [2]int{}, api.ErrBreak},
		{"three rows, all open", three(1, 3), mask(1, 1, 1), [2]int{3, 1}, api.OK},
		{"three rows, half open", three(1, 3), mask(2, 1, 1), [2]int{3, 2}, api.OK},
		{"three rows, the slack is too little", three(1, 4), mask(1, 1, 1), [2]int{}, api.ErrBreak},
		{"three rows without slack, all shut", three(0, 1), mask(1, 0, 0), [2]int{0, 1}, api.OK},
		{"three rows without slack", three(0, 1), mask(mostDen, 1, 1), [2]int{}, api.ErrBreak},
		{"one row", task(0, 1, []int{1, 10, 100}), mask(10, 10, 1, 0), [2]int{2, 1}, api.OK},
		{"one number", task(0, 1, []int{100}), mask(3, 1), [2]int{100, 3}, api.OK},
		{"one number, shut", task(0, 1, []int{100}), mask(mostDen, 0), [2]int{0, 1}, api.OK},
		{"one number, 0", task(0, 1, []int{0}), mask(7, 5), [2]int{0, 1}, api.OK},
		{"the greatest denominator", task(0, 1, []int{1}), mask(mostDen, 1), [2]int{1, mostDen}, api.OK},
		{"the greatest numbers", task(0, 1, []int{100, 100, 100}), mask(mostDen, mostDen, mostDen, mostDen), [2]int{300, 1}, api.OK},
		{"less one", task(0, 1, []int{100, 100, 99}), mask(mostDen, mostDen, mostDen, mostDen-1), [2]int{299*mostDen - 99, mostDen}, api.OK},
		{"just within the slack", task(1, 4, []int{100, 0}, []int{0, 100}), mask(mostDen, mostDen, mostDen/5*4), [2]int{80, 1}, api.OK},
		{"just not", task(1, 4, []int{100, 0}, []int{0, 100}), mask(mostDen, mostDen, mostDen/5*4-1), [2]int{}, api.ErrBreak},
		{"nothing in a row", task(1, 1, []int{1}, []int{0}), mask(mostDen, 1), [2]int{}, api.ErrBreak},
		{"nothing in a row, shut", task(1, 1, []int{1}, []int{0}), mask(mostDen, 0), [2]int{0, 1}, api.OK},
		{"nothing in all rows", task(0, 1, []int{0, 0}, []int{0, 0}), mask(1, 1, 0), [2]int{0, 1}, api.OK},
	} {
		got, e := rack.CheckMask(x.task, x.mask)
		wantSame(t, x.name, got, e, x.want, x.errno)
	}
}

// P9.3: masks are accepted just if they are by the definition, and have its values.
func TestMasksAgain(t *testing.T) {
	r := draws(30)
	seen := map[api.Errno]int{}
	for range 20000 {
		x := drawnTask(r)
		m := api.RackMask{Den: drawnUpTo(r, 1, mostDen)}
		if r.IntN(2) == 0 {
			m.Den = 1 + r.IntN(4)
		}
		for range x.Table[0] {
			m.Open = append(m.Open, drawnUpTo(r, 0, m.Den))
		}
		value, accepted := bookMask(x, m)
		got, e := rack.CheckMask(x, m)
		if accepted {
			wantSame(t, "an accepted mask", got, e, pair(value), api.OK)
		} else {
			wantSame(t, "a mask", got, e, [2]int{}, api.ErrBreak)
		}
		seen[e]++
	}
	wantSeen(t, "accepted masks", seen[api.OK], 3000)
	wantSeen(t, "other masks", seen[api.ErrBreak], 3000)
}

// P9.3: CheckWeights.
func TestCheckWeights(t *testing.T) {
	two := task(0, 1, []int{4, 0}, []int{0, 2})
	l := func(numbers ...int) []int { return numbers }
	for _, x := range []struct {
		name    string
		task    api.MaskTask
		weights api.MaskWeights
		want    [2]int
		errno   api.Errno
	}{
		{"the chapter's example", two, weights(1, l(0, 1), l(0, 0), l(0, 2)), [2]int{2, 1}, api.OK},
		{"in other terms", two, weights(3, l(0, 3), l(0, 0), l(0, 6)), [2]int{2, 1}, api.OK},
		{"more than is needed", two, weights(1, l(0, 2), l(0, 0), l(0, 4)), [2]int{4, 1}, api.OK},
		{"a greater bound", two, weights(1, l(0, 1), l(0, 0), l(1, 2)), [2]int{3, 1}, api.OK},
		{"the other row", two, weights(1, l(1, 0), l(0, 0), l(4, 0)), [2]int{4, 1}, api.OK},
		{"both rows", two, weights(2, l(1, 1), l(0, 0), l(4, 2)), [2]int{3, 1}, api.OK},
		{"a row too low by one", two, weights(3, l(0, 2), l(0, 0), l(0, 6)), [2]int{}, api.ErrProof},
		{"a row too high by one", two, weights(3, l(0, 3), l(1, 0), l(0, 6)), [2]int{}, api.ErrProof},
		{"a blade too low by one", two, weights(3, l(0, 3), l(0, 0), l(0, 5)), [2]int{}, api.ErrProof},
		{"a denominator too great by one", two, weights(4, l(0, 3), l(0, 0), l(0, 6)), [2]int{}, api.ErrProof},
		{"the other blade", two, weights(1, l(0, 1), l(0, 0), l(2, 0)), [2]int{}, api.ErrProof},
		{"nothing", two, weights(1, l(0, 0), l(0, 0), l(0, 0)), [2]int{}, api.ErrProof},
		{"the chapter's example of 0", three(0, 1), weights(1, l(0, 0, 5), l(3, 1, 0), l(0, 0)), [2]int{0, 1}, api.OK},
		{"it is one", three(0, 1), weights(2, l(0, 0, 5), l(3, 1, 0), l(0, 0)), [2]int{}, api.ErrProof},
		{"with more for a blade", three(0, 1), weights(1, l(0, 0, 5), l(3, 1, 0), l(7, 0)), [2]int{7, 1}, api.OK},
		{"less for the first row", three(0, 1), weights(1, l(0, 0, 5), l(2, 1, 0), l(0, 0)), [2]int{}, api.ErrProof},
		{"less for the last row", three(0, 1), weights(1, l(0, 0, 4), l(3, 1, 0), l(0, 0)), [2]int{}, api.ErrProof},
		{"with slack", three(1, 3), weights(5, l(0, 0, 9), l(0, 1, 0), l(15, 0)), [2]int{3, 1}, api.OK},
		{"with slack, a number less", three(1, 3), weights(5, l(0, 0, 9), l(0, 1, 0), l(14, 0)), [2]int{}, api.ErrProof},
		{"with slack, one more above", three(1, 3), weights(5, l(0, 0, 9), l(1, 1, 0), l(15, 0)), [2]int{}, api.ErrProof},
		{"with another slack", three(1, 2), weights(5, l(0, 0, 9), l(0, 1, 0), l(15, 0)), [2]int{}, api.ErrProof},
		{"one number", task(0, 1, l(100)), weights(3, l(3), l(0), l(300)), [2]int{100, 1}, api.OK},
		{"one number, less", task(0, 1, l(100)), weights(3, l(3), l(0), l(299)), [2]int{}, api.ErrProof},
		{"one number, up and down", task(0, 1, l(100)), weights(3, l(5), l(2), l(300)), [2]int{100, 1}, api.OK},
		{"one number, 0", task(1, 1, l(0)), weights(3, l(3), l(0), l(0)), [2]int{0, 1}, api.OK},
		{"one row", task(1, 1, l(1, 10, 100)), weights(1, l(1), l(0), l(1, 10, 100)), [2]int{111, 1}, api.OK},
		{"lowest terms", task(0, 1, l(1, 1)), weights(6, l(6), l(0), l(6, 8)), [2]int{7, 3}, api.OK},
		{"the greatest denominator", task(0, 1, l(1)), weights(mostDen, l(mostDen), l(0), l(mostDen)), [2]int{1, 1}, api.OK},
		{"less one", task(0, 1, l(1)), weights(mostDen, l(mostDen-1), l(0), l(mostDen)), [2]int{}, api.ErrProof},
		{"the greatest numbers", task(0, 1, l(0, 0, 0)), weights(1, l(mostDen), l(0), l(mostDen, mostDen, mostDen)), [2]int{3 * mostDen, 1}, api.OK},
		{"the greatest bound in lowest terms", task(0, 1, l(1, 0)), weights(mostDen-1, l(mostDen), l(0), l(mostDen, mostDen)), [2]int{2 * mostDen, mostDen - 1}, api.OK},
		{
			"the greatest numbers of all", task(1, 1, l(100), l(100), l(100), l(100), l(100), l(100)),
			weights(mostDen, slices.Repeat(l(mostDen), 6), slices.Repeat(l(0), 6), l(mostDen)), [2]int{}, api.ErrProof,
		},
		{
			"all rows at once", task(3, 4, l(0), l(0), l(0), l(100), l(100), l(100)),
			weights(mostDen, slices.Repeat(l(mostDen), 6), l(0, 0, 0, mostDen/4, mostDen/4, mostDen/7), l(mostDen)), [2]int{}, api.ErrProof,
		},
		{
			"all rows at once, with no more above", task(3, 4, l(0), l(0), l(0), l(1), l(1), l(1)),
			weights(mostDen, slices.Repeat(l(mostDen), 6), l(0, 0, 0, mostDen/4, mostDen/4, mostDen/7), l(mostDen)), [2]int{1, 1}, api.OK,
		},
	} {
		got, e := rack.CheckWeights(x.task, x.weights)
		wantSame(t, x.name, got, e, x.want, x.errno)
		bound, right := bookWeights(x.task, x.weights)
		if right != (x.errno == api.OK) || right && pair(bound) != x.want {
			t.Errorf("%s, by the definition: %v, %v", x.name, bound, right)
		}
	}
}

// drawnWeights returns weights of a task: often the least ones for what they are of the rows, or wrong by one.
func drawnWeights(r *rand.Rand, x api.MaskTask) api.MaskWeights {
	most := []int{3, 30, mostDen / 3000}[r.IntN(3)]
	w := weights(1, nil, nil, nil)
	all := 0
	for range x.Table {
		w.Low = append(w.Low, r.IntN(most+1))
		w.High = append(w.High, r.IntN(most+1)/(1+r.IntN(9)))
	}
	for i := range x.Table {
		all += w.Low[i] - (x.Slack.Den+x.Slack.Num)*w.High[i]
	}
	w.Den = max(1, all)
	for blade := range x.Table[0] {
		needed := 0
		for i, row := range x.Table {
			needed += row[blade] * (w.Low[i] - x.Slack.Den*w.High[i])
		}
		w.Caps = append(w.Caps, max(0, needed))
	}
	return w
}

// nudged changes one number of weights by one, if it stays within its limits.
func nudged(r *rand.Rand, w *api.MaskWeights) {
	numbers := []*int{&w.Den}
	for _, l := range [][]int{w.Low, w.High, w.Caps} {
		for i := range l {
			numbers = append(numbers, &l[i])
		}
	}
	n := numbers[r.IntN(len(numbers))]
	*n = max(*n+2*r.IntN(2)-1, 0)
	w.Den = max(1, w.Den)
}

// P9.3: weights are accepted just if they are right by the definition, and have its bounds; often they are right, or
// wrong, by one.
func TestWeightsAgain(t *testing.T) {
	r := draws(31)
	seen := map[api.Errno]int{}
	for range 30000 {
		x := drawnTask(r)
		w := drawnWeights(r, x)
		if r.IntN(2) == 0 {
			nudged(r, &w)
		}
		bound, right := bookWeights(x, w)
		got, e := rack.CheckWeights(x, w)
		if right {
			wantSame(t, "right weights", got, e, pair(bound), api.OK)
		} else {
			wantSame(t, "weights", got, e, [2]int{}, api.ErrProof)
		}
		seen[e]++
	}
	wantSeen(t, "right weights", seen[api.OK], 5000)
	wantSeen(t, "other weights", seen[api.ErrProof], 5000)
}

// masked is a task with a mask and weights.
type masked struct {
	task    api.MaskTask
	mask    api.RackMask
	weights api.MaskWeights
}

// rightMasked is a task with a mask and weights, at the ends of what is right.
func rightMasked() masked {
	return masked{
		task(1, 4, []int{100, 0, 10}, []int{100, 1, 10}, []int{99, 0, 10}),
		mask(mostDen, mostDen, 0, mostDen),
		weights(mostDen, []int{mostDen, 0, 0}, []int{0, 0, 0}, []int{mostDen, mostDen, mostDen}),
	}
}

// slackDefects returns the defects of slacks.
func slackDefects() []defect[api.Frac] {
	var l []defect[api.Frac]
	for _, f := range []api.Frac{
		{}, {Num: 0, Den: 2}, {Num: 0, Den: -1}, {Num: 1, Den: 0}, {Num: 1, Den: -2}, {Num: -1, Den: -2}, {Num: 2, Den: 2}, {Num: 2, Den: 4}, {Num: 10, Den: 5}, {Num: -2, Den: 2},
		{Num: 2, Den: 8}, {Num: math.MinInt, Den: math.MinInt}, {Num: math.MinInt, Den: 2}, {Num: 1, Den: math.MinInt}, {Num: math.MaxInt, Den: math.MaxInt},
	} {
		l = append(l, defect[api.Frac]{"form", func(x *api.Frac) { *x = f }, api.ErrForm, 0})
	}
	for _, f := range []api.Frac{
		{Num: -1, Den: 1}, {Num: -1, Den: 4}, {Num: 2, Den: 1}, {Num: 3, Den: 2}, {Num: 4, Den: 3}, {Num: 5, Den: 4}, {Num: 1, Den: 5}, {Num: 4, Den: 5}, {Num: 5, Den: 6},
		{Num: 1, Den: math.MaxInt}, {Num: math.MaxInt, Den: 1}, {Num: math.MinInt, Den: 1}, {Num: math.MinInt, Den: 3}, {Num: math.MaxInt - 1, Den: math.MaxInt},
	} {
		l = append(l, defect[api.Frac]{"range", func(x *api.Frac) { *x = f }, api.ErrRange, 0})
	}
	return l
}

// taskDefects returns the defects of a task with three rows of three numbers.
func taskDefects() []defect[masked] {
	table := func(name string, e api.Errno, do func(table *[][]int)) defect[masked] {
		return defect[masked]{name, func(x *masked) { do(&x.task.Table) }, e, 0}
	}
	return slices.Concat(
		[]defect[masked]{
			table("nil", api.ErrEmpty, func(table *[][]int) { *table = nil }),
			table("no rows", api.ErrEmpty, func(table *[][]int) { *table = [][]int{} }),
			table("7 rows", api.ErrLarge, func(table *[][]int) { *table = slices.Repeat(*table, 7)[:7] }),
			table("7 empty rows", api.ErrLarge, func(table *[][]int) { *table = make([][]int, 7) }),
			table("many rows", api.ErrLarge, func(table *[][]int) { *table = make([][]int, 5000) }),
			table("no numbers", api.ErrEmpty, func(table *[][]int) { (*table)[0] = nil }),
			table("no numbers in all rows", api.ErrEmpty, func(table *[][]int) { *table = [][]int{{}, {}, {}} }),
			table("4 numbers", api.ErrLarge, func(table *[][]int) { (*table)[0] = []int{1, -2, 3, 4} }),
			table("4 numbers in all rows", api.ErrLarge, func(table *[][]int) { *table = slices.Repeat([][]int{{1, 2, 3, 101}}, 3) }),
			table("many numbers", api.ErrLarge, func(table *[][]int) { (*table)[0] = make([]int, 5000) }),
		},
		within("table", func(x *masked) *[][]int { return &x.task.Table }, tableDefects(3, 3, 100, true)),
		within("slack", func(x *masked) *api.Frac { return &x.task.Slack }, slackDefects()),
	)
}

// P9.3: the errors of CheckTask.
func TestTaskDefects(t *testing.T) {
	defects := taskDefects()
	wantDefects(t, "CheckTask", rightMasked, defects, func(x masked) (int, api.Errno) { return notTold, rack.CheckTask(x.task) })
	for _, slack := range slacks() {
		for _, table := range [][][]int{{{0}}, {{100}}, {{0, 100, 0}}, slices.Repeat([][]int{{100, 0}}, 6), slices.Repeat([][]int{{0, 1, 100}}, 6)} {
			if e := rack.CheckTask(api.MaskTask{Table: table, Slack: slack}); e != api.OK {
				t.Errorf("%v, %v: %d", table, slack, e)
			}
		}
	}
	if e := rack.CheckTask(api.MaskTask{}); e != api.ErrEmpty {
		t.Errorf("no task: %d", e)
	}
}

// P9.3: the errors of CheckMask: of the task, of the mask.
func TestMaskDefects(t *testing.T) {
	defects := slices.Concat(
		taskDefects(),
		within("Den", func(x *masked) *int { return &x.mask.Den }, beyond(1, mostDen, api.ErrRange)),
		within("Open", func(x *masked) *[]int { return &x.mask.Open }, slices.Concat(lengthDefects[int](3), numberDefects(3, 0, mostDen))),
		[]defect[masked]{{"not accepted", func(x *masked) { x.mask.Open[1], x.task.Table[1][1] = mostDen, 100 }, api.ErrBreak, 0}},
	)
	wantDefects(t, "CheckMask", rightMasked, defects, errorOf(t, func(x masked) ([2]int, api.Errno) { return rack.CheckMask(x.task, x.mask) }))
	for _, n := range []int{6, -1} {
		got, e := rack.CheckMask(task(0, 1, []int{1, 1}), mask(5, 5, n))
		wantSame(t, "open by more than all, or less than nothing", got, e, [2]int{}, api.ErrRange)
	}
}

// P9.3: the errors of CheckWeights: of the task, of the weights.
func TestWeightsDefects(t *testing.T) {
	low := func(x *masked) *[]int { return &x.weights.Low }
	high := func(x *masked) *[]int { return &x.weights.High }
	caps := func(x *masked) *[]int { return &x.weights.Caps }
	lengths, numbers := lengthDefects[int](3), numberDefects(3, 0, mostDen)
	defects := slices.Concat(
		taskDefects(),
		within("Den", func(x *masked) *int { return &x.weights.Den }, beyond(1, mostDen, api.ErrRange)),
		within("Low", low, lengths), within("High", high, lengths), within("Caps", caps, lengths),
		within("Low", low, numbers), within("High", high, numbers), within("Caps", caps, numbers),
		[]defect[masked]{{"wrong by one", func(x *masked) { x.weights.Low[0]-- }, api.ErrProof, 0}},
	)
	right := func() masked {
		x := rightMasked()
		x.task.Table[0] = []int{1, 0, 1}
		return x
	}
	wantDefects(t, "CheckWeights", right, defects, errorOf(t, func(x masked) ([2]int, api.Errno) { return rack.CheckWeights(x.task, x.weights) }))
}

// P9.3: the errors of BestMask are those of the task.
func TestBestMaskDefects(t *testing.T) {
	wantDefects(t, "BestMask", rightMasked, taskDefects(), func(x masked) (int, api.Errno) {
		m, w, value, e := rack.BestMask(x.task)
		wantNone[api.RackMask](t, "a mask")(m, e)
		wantNone[api.MaskWeights](t, "weights")(w, e)
		wantNone[[2]int](t, "a value")(value, e)
		return notTold, e
	})
}
