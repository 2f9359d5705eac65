package fit_test

import (
	"slices"
	"testing"

	"etalon/api"
	"etalon/fit"
)

// P7.1: the errors of tasks, each alone and beside each later one, with the number of the box or reading.
func TestCheckTask(t *testing.T) {
	wantDefects(t, "CheckTask", rightTask, taskDefects(), fit.CheckTask)
	for _, i := range []int{1, 5, 19} {
		x := rightTask()
		x.Readings = slices.Repeat([]api.Reading{anything(straight())}, 20)
		for _, d := range readingDefects(i) {
			y := x
			y.Readings = slices.Clone(x.Readings)
			d.do(&y.Readings[i])
			n, e := fit.CheckTask(y)
			wantSame(t, d.name, n, e, i, d.errno)
		}
	}
	for _, i := range []int{0, 3, 5} {
		for _, d := range boxDefects(i) {
			x := task(slices.Repeat(halfWave(), 6))
			d.do(&x.Boxes[i])
			n, e := fit.CheckTask(x)
			wantSame(t, d.name, n, e, i, d.errno)
		}
	}
}

// P7.1: tasks at the ends of the limits are right.
func TestRightTasks(t *testing.T) {
	all := lossy(box(span(5000, 80000), span(0, 1000000)), 80000)
	for name, x := range map[string]api.FitTask{
		"no readings":           task(halfWave()),
		"an empty list":         task(halfWave(), []api.Reading{}...),
		"6 boxes":               task(slices.Repeat(boxes(all), 6)),
		"20 readings":           task(halfWave(), slices.Repeat([]api.Reading{anything(straight())}, 20)...),
		"least numbers":         {Boxes: boxes(box(just(5000), just(0))), On: on(5000), Readings: []api.Reading{reading(setting(1000, 5000, 0), just(-one), just(-one), just(-one))}},
		"greatest numbers":      {Boxes: boxes(lossy(box(just(80000), just(1000000)), 80000)), On: api.Substrate{Index: 80000, Loss: 80000}, Readings: []api.Reading{reading(setting(200000, 80000, 9999), just(one), just(one), just(one))}},
		"an impossible reading": task(halfWave(), reading(straight(), just(one), just(one), just(one))),
	} {
		n, e := fit.CheckTask(x)
		wantSame(t, name, n, e, 0, api.OK)
	}
}

// ofTasks are the functions of a task, which tell its errors ahead of those of their other arguments.
func ofTasks(t *testing.T) map[string]func(x api.FitTask) (int, api.Errno) {
	return map[string]func(x api.FitTask) (int, api.Errno){
		"Refuting": errorOf(t, fit.Refuting),
		"Explains": errorOf(t, fit.Explains),
		"Search":   errorOf(t, func(x api.FitTask) ([]int, api.Errno) { return fit.Search(x, -1) }),
		"CheckTree": errorOf(t, func(x api.FitTask) ([2]int, api.Errno) {
			kept, refuted, e := fit.CheckTree(x, make([]int, 2001))
			return [2]int{kept, refuted}, e
		}),
		"Kept":  errorOf(t, func(x api.FitTask) ([][]api.LayerBox, api.Errno) { return fit.Kept(x, nil) }),
		"Where": errorOf(t, func(x api.FitTask) (int, api.Errno) { return fit.Where(x, []int{99}, nil) }),
	}
}

// The errors of a task, without its number, are the first ones of all functions of tasks.
func TestErrorsOfTasks(t *testing.T) {
	own := map[string]api.Errno{
		"Refuting": api.ErrNone, "Explains": api.OK, "Search": api.ErrRange, "CheckTree": api.ErrLarge, "Kept": api.ErrShape, "Where": api.ErrMissing,
	}
	for name, call := range ofTasks(t) {
		for _, d := range taskDefects() {
			x := rightTask()
			d.do(&x)
			_, e := call(x)
			wantError(t, name+", "+d.name, e, d.errno)
		}
		_, e := call(rightTask())
		wantError(t, name, e, own[name])
	}
}
