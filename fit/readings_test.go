package fit_test

import (
	"slices"
	"testing"

	"etalon/api"
	"etalon/fit"
)

// wantAnswers asks Refuting and Explains of a task; the number refuted is -1 if no reading refutes.
func wantAnswers(t *testing.T, name string, x api.FitTask, refuted, explained int) {
	t.Helper()
	n, e := fit.Refuting(x)
	if refuted < 0 {
		wantSame(t, name+": Refuting", n, e, 0, api.ErrNone)
	} else {
		wantSame(t, name+": Refuting", n, e, refuted, api.OK)
	}
	n, e = fit.Explains(x)
	wantSame(t, name+": Explains", n, e, explained, api.OK)
}

// P7.3: the chapter's examples, and readings at the ends of what would be read.
func TestAnswers(t *testing.T) {
	all := span(-one, one)
	q := straight()
	with := func(n, c, s api.Range) api.FitTask { return task(halfWave(), reading(q, n, c, s)) }
	refuting, explained, open := reading(q, span(100, 200), all, all), anything(q), reading(q, span(-6, 5), all, all)
	dark := task(boxes(box(just(20000), just(500))), refuting)
	mirror := task(boxes(box(span(14000, 16000), just(500))), reading(setting(4000, 20000, 7500), just(0), just(0), just(0)))
	for _, x := range []struct {
		name               string
		t                  api.FitTask
		refuted, explained int
	}{
		{"no readings", task(halfWave()), -1, api.AnswerYes},
		{"the chapter's second example", task(halfWave(), refuting), 0, api.AnswerNo},
		{"the chapter's third example", with(span(-10, 10), span(-1048576, -1048000), span(-10, 10)), -1, api.AnswerYes},
		{"just what would be read", with(span(-6, 6), span(-1048576, -1048562), span(-9, 9)), -1, api.AnswerYes},
		{"N begins later", with(span(-5, 6), span(-1048576, -1048562), span(-9, 9)), -1, api.AnswerMaybe},
		{"N ends earlier", with(span(-6, 5), span(-1048576, -1048562), span(-9, 9)), -1, api.AnswerMaybe},
		{"C begins later", with(span(-6, 6), span(-1048575, -1048562), span(-9, 9)), -1, api.AnswerMaybe},
		{"C ends earlier", with(span(-6, 6), span(-1048576, -1048563), span(-9, 9)), -1, api.AnswerMaybe},
		{"S begins later", with(span(-6, 6), span(-1048576, -1048562), span(-8, 9)), -1, api.AnswerMaybe},
		{"S ends earlier", with(span(-6, 6), span(-1048576, -1048562), span(-9, 8)), -1, api.AnswerMaybe},
		{"just a number in common", with(just(6), just(-1048562), just(-9)), -1, api.AnswerMaybe},
		{"N just above", with(just(7), all, all), 0, api.AnswerNo},
		{"N just below", with(just(-7), all, all), 0, api.AnswerNo},
		{"C just above", with(all, just(-1048561), all), 0, api.AnswerNo},
		{"S just above", with(all, all, just(10)), 0, api.AnswerNo},
		{"S just below", with(all, all, just(-10)), 0, api.AnswerNo},
		{"the second reading refutes", task(halfWave(), open, refuting, refuting), 1, api.AnswerNo},
		{"the last one does", task(halfWave(), append(slices.Repeat([]api.Reading{explained}, 19), refuting)...), 19, api.AnswerNo},
		{"one is open", task(halfWave(), explained, open, explained), -1, api.AnswerMaybe},
		{"all are explained", task(halfWave(), explained, explained), -1, api.AnswerYes},
		{"nothing may be reflected", dark, -1, api.AnswerMaybe},
		{"over the edge of total reflection", mirror, -1, api.AnswerMaybe},
	} {
		wantAnswers(t, x.name, x.t, x.refuted, x.explained)
		if n := bookFirst(x.t); n != x.refuted {
			t.Errorf("%s, by the book: %d", x.name, n)
		}
	}
}

// P7.3: readings that cannot be told refute nothing and are not explained; others beside them count.
func TestUntoldReadings(t *testing.T) {
	x := many(1)
	never := x.Readings[0]
	never.N, never.C, never.S = just(one), just(one), just(one)
	x.Readings = []api.Reading{never}
	wantAnswers(t, "untold", x, -1, api.AnswerMaybe)
	x.Readings = append(x.Readings, anything(straight()))
	wantAnswers(t, "untold and explained", x, -1, api.AnswerMaybe)
	x.Readings = append(x.Readings, reading(straight(), just(one), just(one), just(one)))
	wantAnswers(t, "untold and refuting", x, 2, api.AnswerNo)
}

// P7.3: Refuting and Explains by the book.
func TestAnswersByTheBook(t *testing.T) {
	r := draws(30)
	var seen [3]int
	var late int
	for range 6000 {
		x, _ := drawnTask(r)
		if len(x.Readings) > 0 && r.IntN(3) == 0 {
			// A sample that lies elsewhere, perhaps.
			for i := range x.Boxes {
				x.Boxes[i].Thick = drawnRange(r, 0, 3000, 20)
			}
		}
		explained := bookExplains(x)
		wantAnswers(t, "a task", x, bookFirst(x), explained)
		seen[explained]++
		if bookFirst(x) > 0 {
			late++
		}
	}
	t.Log(seen, late)
	for _, n := range seen {
		wantSeen(t, "an answer", n, 500)
	}
	wantSeen(t, "readings that refute behind others", late, 100)
}
