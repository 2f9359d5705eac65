package meter_test

import (
	"math/rand/v2"
	"testing"

	"etalon/api"
	"etalon/meter"
)

// half is the sums of the first example, without margin.
func half() api.MeterSums { return sums(single(80), single(20), single(0)) }

// P6.4: Ratios.
func TestRatios(t *testing.T) {
	const most = api.MaxSum
	odd := []defect[api.MeterSums]{
		{"All is 0", func(x *api.MeterSums) { x.All = span(0, 1) }, api.ErrZero, 0},
		{"Cos is beyond", func(x *api.MeterSums) { x.Cos = single(50) }, api.ErrBreak, 0},
		{"Sin is beyond", func(x *api.MeterSums) { x.Sin = single(-50) }, api.ErrBreak, 0},
	}
	wantDefects(t, "Ratios", half, append(sumsDefects(), odd...), errorOf(t, meter.Ratios))
	for _, x := range []struct {
		x     api.MeterSums
		want  [2]api.Range
		errno api.Errno
	}{
		{half(), [2]api.Range{single(one / 2), single(0)}, api.OK},
		{sums(single(80), single(0), single(-20)), [2]api.Range{single(0), single(-one / 2)}, api.OK},
		{sums(single(80), single(40), single(-40)), [2]api.Range{single(one), single(-one)}, api.OK},
		{sums(single(3), single(1), single(-1)), [2]api.Range{span(699050, 699051), span(-699051, -699050)}, api.OK},
		{sums(span(76, 84), span(18, 22), span(-2, 2)), [2]api.Range{span(449389, 607071), span(-55189, 55189)}, api.OK},
		{sums(span(76, 84), span(-22, -18), span(2, 3)), [2]api.Range{span(-607071, -449389), span(49932, 82783)}, api.OK},
		// Cut at one end, or at both.
		{sums(single(10), span(4, 6), span(-6, -4)), [2]api.Range{span(838860, one), span(-one, -838860)}, api.OK},
		{sums(span(1, 10), span(-1, 1), span(-most, most)), [2]api.Range{span(-one, one), span(-one, one)}, api.OK},
		{sums(single(10), span(5, 6), span(-6, -5)), [2]api.Range{single(one), single(-one)}, api.OK},
		{sums(span(1, most), single(most/2), single(-most/2)), [2]api.Range{single(one), single(-one)}, api.OK},
		{sums(span(1, most), single(most), single(0)), [2]api.Range{}, api.ErrBreak},
		// Beyond with all that is possible.
		{sums(single(10), span(6, 7), single(0)), [2]api.Range{}, api.ErrBreak},
		{sums(single(10), span(-7, -6), single(0)), [2]api.Range{}, api.ErrBreak},
		{sums(single(10), single(0), span(6, 7)), [2]api.Range{}, api.ErrBreak},
		{sums(single(10), single(0), span(-7, -6)), [2]api.Range{}, api.ErrBreak},
		{sums(span(9, 10), single(6), single(0)), [2]api.Range{}, api.ErrBreak},
		{sums(span(9, 12), single(6), single(-6)), [2]api.Range{single(one), single(-one)}, api.OK},
		// Rounded down to One, or up to -One, it is not beyond.
		{sums(single(9999999), single(5000000), single(-5000000)), [2]api.Range{single(one), single(-one)}, api.OK},
		{sums(single(9999981), single(5000000), single(0)), [2]api.Range{}, api.ErrBreak},
		{sums(single(9999981), single(0), single(-5000000)), [2]api.Range{}, api.ErrBreak},
		{sums(span(0, 80), single(20), single(0)), [2]api.Range{}, api.ErrZero},
		{sums(span(-80, 80), single(90), single(90)), [2]api.Range{}, api.ErrZero},
		{sums(span(-80, -70), single(0), single(0)), [2]api.Range{}, api.ErrZero},
		{sums(single(1), single(0), single(0)), [2]api.Range{}, api.OK},
		{sums(single(most), single(most/2), single(-most/2)), [2]api.Range{single(one), single(-one)}, api.OK},
	} {
		got, e := meter.Ratios(x.x)
		wantSame(t, "ratios", got, e, x.want, x.errno)
	}
	r := draws(30)
	count := map[api.Errno]int{}
	for range 20000 {
		x := drawnRight(r)
		want, errno := bookRatios(x)
		got, e := meter.Ratios(x)
		wantSame(t, "ratios", got, e, want, errno)
		count[errno]++
	}
	if count[api.OK] < 5000 || count[api.ErrBreak] < 300 || count[api.ErrZero] < 300 {
		t.Errorf("%v", count)
	}
}

// drawnRight returns sums of which most have ratios.
func drawnRight(r *rand.Rand) api.MeterSums {
	most := drawnSize(r, api.MaxSum)
	all := span(most/2+1+r.IntN(most/2+1), 0)
	all.Hi = min(all.Lo+drawnSize(r, most), api.MaxSum)
	if r.IntN(20) == 0 {
		all.Lo = -r.IntN(2)
	}
	part := func() api.Range {
		x := drawnRange(r, most)
		if r.IntN(4) > 0 {
			return span(x.Lo/2, max(x.Lo/2, x.Hi/2))
		}
		return x
	}
	return sums(all, part(), part())
}

// P6.4: the errors of ReadingOf, in their order.
func TestErrorsOfReadings(t *testing.T) {
	right := func() api.MeterQuery { return query(half(), half(), turn(3, 4, 5)) }
	bare := func(q *api.MeterQuery) *api.MeterSums { return &q.Bare }
	plate := func(q *api.MeterQuery) *api.MeterSums { return &q.Plate }
	wantDefects(t, "ReadingOf", right, joined(
		settingDefects(
			func(q *api.MeterQuery) *string { return &q.Name },
			func(q *api.MeterQuery) *int { return &q.Wave },
			func(q *api.MeterQuery) *api.Incidence { return &q.At },
		),
		within("Bare", bare, sumsDefects()),
		within("Plate", plate, sumsDefects()),
		within("Twice", func(q *api.MeterQuery) *api.PolarTurn { return &q.Twice }, turnDefects()),
		[]defect[api.MeterQuery]{
			{"Q is 0", func(q *api.MeterQuery) { q.Twice = turn(-5, 0, 5) }, api.ErrZero, 0},
			{"Bare.All is 0", func(q *api.MeterQuery) { q.Bare = sums(span(0, 1), single(90), single(90)) }, api.ErrZero, 0},
			{"Bare.Cos is beyond", func(q *api.MeterQuery) { q.Bare = sums(single(80), single(90), single(0)) }, api.ErrBreak, 0},
			{"Bare.Sin is beyond", func(q *api.MeterQuery) { q.Bare = sums(single(80), single(20), single(90)) }, api.ErrBreak, 0},
			{"Plate.All is 0", func(q *api.MeterQuery) { q.Plate = sums(span(0, 1), single(90), single(90)) }, api.ErrZero, 0},
			{"Plate.Cos is beyond", func(q *api.MeterQuery) { q.Plate = sums(single(80), single(90), single(0)) }, api.ErrBreak, 0},
			{"Plate.Sin is beyond", func(q *api.MeterQuery) { q.Plate = sums(single(80), single(20), single(90)) }, api.ErrBreak, 0},
			{"no N in common", func(q *api.MeterQuery) {
				q.Bare, q.Plate = sums(single(80), single(20), single(40)), sums(single(80), single(-20), single(40))
			}, api.ErrClash, 0},
			{"C is beyond", func(q *api.MeterQuery) {
				q.Bare, q.Plate = sums(single(80), single(30), single(40)), sums(single(80), single(30), single(0))
			}, api.ErrBreak, 0},
			{"S is beyond", func(q *api.MeterQuery) {
				q.Bare, q.Plate = sums(single(80), single(30), single(0)), sums(single(80), single(30), single(40))
			}, api.ErrBreak, 0},
		},
	), errorOf(t, meter.ReadingOf))
}

// P6.4: ReadingOf, by examples.
func TestReadingOf(t *testing.T) {
	wide := sums(span(76, 84), span(18, 22), span(-2, 2))
	for _, x := range []struct {
		name        string
		bare, plate api.MeterSums
		twice       api.PolarTurn
		n, c, s     api.Range
	}{
		{"at 45 degrees", half(), half(), turn(0, 1, 1), single(-one / 2), single(0), single(0)},
		{"at 45 degrees, a greater side", half(), half(), turn(0, 7, 7), single(-one / 2), single(0), single(0)},
		{"at -45 degrees", sums(single(80), single(0), single(20)), sums(single(80), single(0), single(10)), turn(0, -1, 1), single(0), single(-one / 2), single(-one / 4)},
		{"ranges", wide, wide, turn(0, 1, 1), span(-607071, -449389), span(-55189, 55189), span(-55189, 55189)},
		{"N from one to the other", wide, sums(single(80), span(20, 30), single(10)), turn(0, 1, 1), span(-607071, -one/2), span(-55189, 55189), single(one / 4)},
		{"N from the other to the one", wide, sums(single(80), span(0, 20), single(10)), turn(0, 1, 1), span(-one/2, -449389), span(-55189, 55189), single(one / 4)},
		{"a single N in common", wide, sums(single(84), span(0, 18), single(0)), turn(0, 1, 1), span(-449390, -449389), span(-55189, 55189), single(0)},
		// (3/5 - 1/2) / (1 - 3/10) is 1/7; what is found of Sin is 1 - 3/35 times as much, by 4/5.
		{"another turn", half(), half(), turn(3, 4, 5), span(149796, 149797), single(0), single(0)},
		{"another turn, C and S", sums(single(80), single(20), single(20)), sums(single(80), single(20), single(-20)), turn(3, 4, 5), span(149796, 149797), span(599186, 599187), span(-599187, -599186)},
		{"the turn back", sums(single(80), single(20), single(20)), sums(single(80), single(20), single(-20)), turn(3, -4, 5), span(149796, 149797), span(-599187, -599186), span(599186, 599187)},
		{"all of N", sums(span(1, 100), span(-50, 50), single(0)), sums(span(1, 100), span(-50, 50), single(0)), turn(-3, 4, 5), span(-one, one), single(0), single(0)},
		// (3/5 - 3/4) / (1 - 9/20) is -3/11; half of what is found of Sin is 8/11, all of it is beyond 1.
		{"cut at one end", sums(single(80), single(30), span(20, 40)), sums(single(80), single(30), span(-40, -20)), turn(3, 4, 5), span(-285976, -285975), span(762600, one), span(-one, -762600)},
		{"cut at the other end", sums(single(80), single(30), span(-40, -20)), sums(single(80), single(30), span(-40, 40)), turn(3, 4, 5), span(-285976, -285975), span(-one, -762600), span(-one, one)},
	} {
		got, e := meter.ReadingOf(query(x.bare, x.plate, x.twice))
		wantSame(t, x.name, got, e, reading(x.n, x.c, x.s), api.OK)
	}
	// Nothing is asked of the degree.
	got, e := meter.ReadingOf(query(sums(single(80), single(0), single(40)), sums(single(80), single(0), single(-40)), turn(0, 1, 1)))
	wantSame(t, "an impossible reading", got, e, reading(single(0), single(one), single(-one)), api.OK)
	possible, e := meter.Possible(got)
	wantSame(t, "is impossible", possible, e, api.AnswerNo, api.OK)
}

// P6.4: ReadingOf is as the definition says.
func TestReadingOfByTheBook(t *testing.T) {
	turns := append(turnsUpTo(30), turn(1000, 0, 1000), turn(-936, 352, 1000), turn(999, 0, 999), turn(280, -960, 1000), turn(0, 1000, 1000))
	r := draws(31)
	count := map[api.Errno]int{}
	for range 30000 {
		q := query(drawnRight(r), drawnRight(r), turns[r.IntN(len(turns))])
		if r.IntN(2) == 0 {
			// Both scans are of much the same light.
			q.Plate.All, q.Plate.Cos = q.Bare.All, q.Bare.Cos
			q.Plate.Sin = span(q.Bare.Sin.Lo, q.Bare.Sin.Hi)
		}
		q.Wave += r.IntN(1000)
		want, errno := bookReading(q)
		got, e := meter.ReadingOf(q)
		wantSame(t, "reading", got, e, want, errno)
		if e == api.OK {
			wantError(t, "a reading is right", meter.CheckReading(got), api.OK)
		}
		count[errno]++
	}
	if count[api.OK] < 5000 || count[api.ErrBreak] < 500 || count[api.ErrZero] < 1000 || count[api.ErrClash] < 1000 {
		t.Errorf("%v", count)
	}
}

// P6.4: CheckReading.
func TestCheckReading(t *testing.T) {
	right := func() api.Reading { return reading(span(-10, 10), span(0, 5), span(-5, 0)) }
	wantDefects(t, "CheckReading", right, readingDefects(), alone(meter.CheckReading))
	for _, r := range []api.Reading{
		reading(span(-one, one), span(-one, one), span(-one, one)),
		{Name: "abcdefghijkl", Wave: api.LeastWave, At: api.Incidence{Index: api.LeastIndex}},
		{Name: "Z-9", Wave: api.MaxWave, At: api.Incidence{Index: api.MaxIndex, Sine: 9999}, N: single(one), C: single(-one), S: single(one)},
	} {
		wantError(t, "a right reading", meter.CheckReading(r), api.OK)
	}
}
