package band_test

import (
	"math"
	"slices"
	"testing"

	"etalon/api"
	"etalon/band"
)

// wantAnswer reports an answer of a task that is not the expected one.
func wantAnswer(t *testing.T, name string, task api.BandTask, answer int, trees [][]int, point api.BandPoint) {
	t.Helper()
	got, gotTrees, gotPoint, e := band.Answer(task)
	if got != answer || !slices.EqualFunc(gotTrees, trees, slices.Equal[[]int]) || gotPoint != point || e != api.OK {
		t.Errorf("%s: %d, %v, %v, %d; want %d, %v, %v", name, got, gotTrees, gotPoint, e, answer, trees, point)
	}
}

// P4.4: Answer, the chapter's examples and what the chapter names.
func TestAnswer(t *testing.T) {
	no, maybe, yes := api.AnswerNo, api.AnswerMaybe, api.AnswerYes
	wide := []api.LayerBox{{Index: span(20000, 20500), Thick: span(0, 60)}}
	dark := asking(40000, quarter(), reflecting(0, 100))
	dark.Layers[0].Thick = span(0, 1000000)
	edge := asking(12000, nil, over(reflecting(0, 10000), just(4000), span(5998, 6002)))
	edge.Demands[0].Index = 20000
	for _, x := range []struct {
		name   string
		t      api.BandTask
		answer int
		trees  [][]int
		point  api.BandPoint
	}{
		{"the first example", asking(40000, quarter(), reflecting(0, 100)), yes, [][]int{{0}}, api.BandPoint{}},
		{"without the layer", asking(40000, nil, reflecting(0, 100)), no, nil, api.BandPoint{Demand: 0, Wave: 4000, Sine: 0}},
		{"just what is reflected", asking(40000, nil, reflecting(3600, 3600)), maybe, nil, api.BandPoint{}},
		{"just above it", asking(40000, nil, reflecting(3601, 10000)), no, nil, api.BandPoint{Wave: 4000}},
		{"just below it", asking(40000, nil, reflecting(0, 3599)), no, nil, api.BandPoint{Wave: 4000}},
		{"around it", asking(40000, nil, reflecting(3599, 3601)), yes, [][]int{{0}}, api.BandPoint{}},
		{"all layers", dark, maybe, nil, api.BandPoint{}},
		{"all light, but an error", asking(40000, dark.Layers, reflecting(0, 10000)), maybe, nil, api.BandPoint{}},
		{"all light", asking(40000, wide, over(reflecting(0, 10000), span(3000, 3500), span(0, 2000))), yes, [][]int{{0}}, api.BandPoint{}},
		{"two of them", asking(40000, quarter(), reflecting(0, 100), reflecting(0, 0)), yes, [][]int{{0}, {0}}, api.BandPoint{}},
		{"the second one is broken", asking(40000, quarter(), reflecting(0, 1), reflecting(1, 2), reflecting(2, 3)), no, nil, api.BandPoint{Demand: 1, Wave: 4000}},
		{"the first one is open, the second one broken", asking(40000, nil, reflecting(3600, 3600), reflecting(0, 3000)), no, nil, api.BandPoint{Demand: 1, Wave: 4000}},
		{"the first one is kept, the second one open", asking(40000, nil, reflecting(0, 4000), reflecting(3600, 3600)), maybe, nil, api.BandPoint{}},
		{"the first one is open, the second one kept", asking(40000, nil, reflecting(3600, 3600), reflecting(0, 4000)), maybe, nil, api.BandPoint{}},
		{"a range of two numbers", asking(40000, quarter(), over(reflecting(0, 100), span(4000, 4001), span(0, 1))), yes, [][]int{{0}}, api.BandPoint{}},
		{"a range of two numbers, open", asking(40000, quarter(), over(reflecting(0, 0), span(4000, 4001), just(0))), maybe, nil, api.BandPoint{}},
		{"a range of three numbers, open", asking(40000, quarter(), over(reflecting(0, 0), span(4000, 4002), just(0))), maybe, nil, api.BandPoint{}},
		{"two pieces", asking(40000, quarter(), over(reflecting(0, 20), span(3950, 4050), just(0))), yes, [][]int{{1, 0, 0}}, api.BandPoint{}},
		{"pieces of different sizes", asking(40000, quarter(), over(reflecting(0, 50), span(3800, 4200), just(0))), yes, [][]int{{1, 1, 1, 1, 1, 0, 0, 0, 0, 0, 1, 0, 1, 0, 1, 0, 0}}, api.BandPoint{}},
		{"pieces of both kinds", asking(40000, quarter(), over(reflecting(0, 200), span(3800, 4200), span(0, 500))), yes, [][]int{{2, 1, 0, 0, 1, 0, 0}}, api.BandPoint{}},
		{"as wide in both", asking(40000, quarter(), over(reflecting(0, 50), span(3800, 4200), span(0, 400))), maybe, nil, api.BandPoint{}},
		{"broken at the middle", asking(40000, quarter(), over(reflecting(100, 200), span(3801, 4200), span(0, 3))), no, nil, api.BandPoint{Wave: 4000, Sine: 1}},
		{"broken in the first half", asking(40000, quarter(), over(reflecting(0, 50), span(3500, 4500), just(0))), no, nil, api.BandPoint{Wave: 3750}},
		{"broken by all ends, but not at the middle", asking(40000, quarter(), over(reflecting(0, 100), span(3000, 5001), just(0))), no, nil, api.BandPoint{Wave: 3500}},
		{"over the edge of total reflection", edge, maybe, nil, api.BandPoint{}},
	} {
		wantAnswer(t, x.name, x.t, x.answer, x.trees, x.point)
		answer, trees, point := bookTask(x.t)
		wantAnswer(t, x.name+", by the book", x.t, answer, trees, point)
	}
}

// P4.4: a refutation behind an open part counts more than the part.
func TestAnswerBehindOpenParts(t *testing.T) {
	// A surface reflects more and more aslant: so a bound on it is kept up to some sine, open there, and broken behind.
	task := asking(15000, nil, over(reflecting(0, 0), just(4000), span(1000, 4001)))
	open := 0
	for most := 430; most <= 730; most++ {
		task.Demands[0].Most = most
		if f := bookFind(task, 0); f.broken && f.open > 0 {
			open++
		}
		answer, trees, point := bookTask(task)
		wantAnswer(t, "aslant", task, answer, trees, point)
	}
	wantSeen(t, "a refutation behind an open part", open, 1)
}

// P4.4: answers of any tasks, to the last node.
func TestAnswersByTheBook(t *testing.T) {
	r := draws(20)
	var seen [3]int
	behind, deep, mixed := 0, 0, 0
	for range 1500 {
		task := drawnTask(r)
		answer, trees, point := bookTask(task)
		wantAnswer(t, "a task", task, answer, trees, point)
		seen[answer]++
		if answer == api.AnswerNo && bookFind(task, point.Demand).open > 0 {
			behind++
		}
		for _, tree := range trees {
			if len(tree) > 30 {
				deep++
			}
			if slices.Contains(tree, api.CutWave) && slices.Contains(tree, api.CutSine) {
				mixed++
			}
		}
	}
	for answer, n := range seen {
		wantSeen(t, "an answer "+[3]string{"no", "maybe", "yes"}[answer], n, 150)
	}
	wantSeen(t, "refutations behind open parts", behind, 20)
	wantSeen(t, "large trees", deep, 5)
	wantSeen(t, "trees of both cuts", mixed, 10)
}

// P4.4: Over.
func TestOver(t *testing.T) {
	surface := asking(20000, nil, reflecting(0, 0), over(reflecting(5, 6), span(4000, 4800), span(0, 4000)), over(sampleDemand(), span(4000, 4001), span(3, 4)))
	s, e := band.Over(surface, 0, 0)
	wantSame(t, "a surface", s, e, span(116507, 116509), api.OK)
	for cuts := range 6 {
		s, e := band.Over(surface, 0, cuts)
		wantSame(t, "what cannot be halved", s, e, span(116507, 116509), api.OK)
		s, e = band.Over(surface, 2, cuts)
		want, errno := bookOver(surface, 2, 0)
		wantSame(t, "what has two numbers", s, e, want, errno)
	}
	for _, cuts := range []int{math.MinInt, -1, 6, math.MaxInt} {
		s, e := band.Over(surface, 1, cuts)
		wantSame(t, "cuts", s, e, api.Range{}, api.ErrRange)
	}
	// Total reflection behind some sine: the parts at its edge have an error, whatever the others are.
	edge := asking(12000, nil, over(reflecting(0, 1), span(5000, 5002), span(5000, 7000)))
	edge.Demands[0].Index = 20000
	for cuts := range 6 {
		s, e := band.Over(edge, 0, cuts)
		wantSame(t, "over the edge", s, e, api.Range{}, api.ErrClash)
	}
	r, other := draws(21), 0
	for range 3000 {
		task := drawnTask(r)
		for demand := range task.Demands {
			cuts := r.IntN(6)
			want, errno := bookOver(task, demand, cuts)
			got, e := band.Over(task, demand, cuts)
			wantSame(t, "a task", got, e, want, errno)
			if whole, _ := bookOver(task, demand, 0); whole != want && e == api.OK {
				other++
			}
		}
	}
	wantSeen(t, "narrower shares", other, 500)
}

// P4.4: the error of Over is that of the first part that has one.
func TestOverFirstError(t *testing.T) {
	r, errors, differ := draws(22), 0, 0
	for range 3000 {
		task := drawnTask(r)
		for i := range task.Layers {
			// Layers as wide as this have all kinds of errors.
			task.Layers[i].Index = drawnRange(r, 5000, 80000, 40000)
			task.Layers[i].Thick = drawnRange(r, 0, 3000, 1000)
		}
		task.Demands[0].Index = drawnBetween(r, 10000, 30000)
		task.Demands[0].Sine = drawnRange(r, 0, 9999, 5000)
		for cuts := range 6 {
			want, errno := bookOver(task, 0, cuts)
			got, e := band.Over(task, 0, cuts)
			wantSame(t, "wide layers", got, e, want, errno)
			if e == api.OK {
				continue
			}
			errors++
			d := task.Demands[0]
			for _, x := range bookParts(piece(d.Wave, d.Sine), cuts) {
				if _, later := bookShare(task, d, x); later != api.OK && later != e {
					differ++
					break
				}
			}
		}
	}
	wantSeen(t, "errors", errors, 1000)
	wantSeen(t, "parts with other errors", differ, 50)
}
