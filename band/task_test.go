package band_test

import (
	"math"
	"slices"
	"testing"

	"etalon/api"
	"etalon/band"
)

// P4.2: CheckTask.
func TestCheckTask(t *testing.T) {
	many := sampleTask()
	many.Demands = slices.Repeat(many.Demands[:1], api.MaxDemands)
	many.Layers = slices.Repeat(many.Layers, api.MaxLayers/2)
	bare := asking(5000, nil, reflecting(0, 0))
	empty := asking(80000, []api.LayerBox{}, reflecting(10000, 10000))
	empty.On.Loss = 80000
	wide := asking(15000, []api.LayerBox{{Index: span(5000, 80000), Thick: span(0, 1000000), Loss: 80000}}, sampleDemand())
	for _, x := range []api.BandTask{sampleTask(), many, bare, empty, wide} {
		i, e := band.CheckTask(x)
		wantSame(t, "a right one", i, e, 0, api.OK)
	}
	for _, x := range wrongTasks() {
		i, e := band.CheckTask(x.t)
		wantSame(t, x.name, i, e, x.demand, x.errno)
	}
	many.Demands[7].Most = 10001
	i, e := band.CheckTask(many)
	wantSame(t, "the last demand", i, e, 7, api.ErrRange)
	many = sampleTask()
	many.Layers = slices.Repeat(many.Layers, api.MaxLayers/2)
	many.Layers[39].Loss = 80001
	i, e = band.CheckTask(many)
	wantSame(t, "the last layer", i, e, 0, api.ErrRange)
}

// R1: errors of the task stand ahead of those of other arguments, and beside an error nothing else.
func TestErrorsOfTasks(t *testing.T) {
	for _, x := range wrongTasks() {
		for _, demand := range []int{math.MinInt, -1, 0, 1, 9, math.MaxInt} {
			for _, f := range onesOfTasks() {
				if e, none := f.call(x.t, demand); e != x.errno || !none {
					t.Errorf("%s of %s: %d, %v; want %d", f.name, x.name, e, none, x.errno)
				}
			}
		}
		answer, trees, point, e := band.Answer(x.t)
		if answer != 0 || trees != nil || point != (api.BandPoint{}) || e != x.errno {
			t.Errorf("Answer of %s: %v, %v, %v, %d; want %d", x.name, answer, trees, point, e, x.errno)
		}
	}
}

// The error of a demand of a task stands ahead of what is asked of it.
func TestMissingDemands(t *testing.T) {
	task := sampleTask()
	for _, demand := range []int{math.MinInt, -1, 3, 4, 8, math.MaxInt} {
		for _, f := range onesOfTasks() {
			if e, none := f.call(task, demand); e != api.ErrMissing || !none {
				t.Errorf("%s of the demand %d: %d, %v", f.name, demand, e, none)
			}
		}
		_, e := band.AnswerAt(task, demand, piece(span(1, 0), span(-1, -2)))
		wantError(t, "AnswerAt of no piece", e, api.ErrMissing)
		wantError(t, "CheckPoint of no point", band.CheckPoint(task, api.BandPoint{Demand: demand}), api.ErrMissing)
		_, e = band.CheckTree(task, demand, make([]int, 64))
		wantError(t, "CheckTree of a large tree", e, api.ErrMissing)
		_, e = band.Over(task, demand, -1)
		wantError(t, "Over of no cuts", e, api.ErrMissing)
	}
	for demand := range 3 {
		_, e := band.Over(task, demand, 0)
		wantError(t, "a demand that is there", e, api.OK)
	}
}
