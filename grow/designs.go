package grow

import (
	"iter"
	"slices"

	"etalon/api"
	"etalon/band"
	"etalon/span"
	"etalon/stack"
	"etalon/whole"
)

// Boxes returns the boxes of a task.
func Boxes(t api.GrowTask) ([]api.LayerBox, api.Errno) {
	boxes, e := stack.Boxed(t.Design, 0)
	if e != api.OK {
		return nil, e
	}
	if e := checkGrown(t); e != api.OK {
		return nil, e
	}
	others, e := stack.Boxed(t.Design[len(t.Grown):], t.Error)
	if e != api.OK {
		return nil, e
	}
	for i, thick := range t.Grown {
		boxes[i].Thick = thick
	}
	return append(boxes[:len(t.Grown)], others...), api.OK
}

// checkGrown checks the thicknesses that are grown already.
func checkGrown(t api.GrowTask) api.Errno {
	if len(t.Grown) > len(t.Design) {
		return api.ErrShape
	}
	for _, thick := range t.Grown {
		if e := span.Check(thick, 0, api.MaxThick); e != api.OK {
			return e
		}
	}
	return api.OK
}

// Released returns whether the boxes of a task keep its demands, and the point that refutes one.
func Released(t api.GrowTask) (int, api.BandPoint, api.Errno) {
	boxes, e := Boxes(t)
	if e != api.OK {
		return 0, api.BandPoint{}, e
	}
	answer, _, point, e := band.Answer(api.BandTask{Demands: t.Demands, Layers: boxes, On: t.On})
	return answer, point, e
}

// isReleased says whether a task, right or wrong, surely keeps its demands.
func isReleased(t api.GrowTask) bool {
	answer, _, e := Released(t)
	return e == api.OK && answer == api.AnswerYes
}

// Tolerance returns the greatest error up to most with which a task is released.
func Tolerance(t api.GrowTask, most int) (int, api.Errno) {
	t.Error = 0
	if _, e := Boxes(t); e != api.OK {
		return 0, e
	}
	if !whole.Within(most, 0, api.MaxGrowError) {
		return 0, api.ErrRange
	}
	return firstOf(downFrom(most), func(thousandths int) bool {
		t.Error = thousandths
		return isReleased(t)
	})
}

// Compensated returns the thickness nearest to that of the first layer which is not grown, at most so far away, with
// which a task is released.
func Compensated(t api.GrowTask, reach int) (int, api.Errno) {
	if _, e := Boxes(t); e != api.OK {
		return 0, e
	}
	next := len(t.Grown)
	if next == len(t.Design) {
		return 0, api.ErrMissing
	}
	if !whole.Within(reach, 0, api.MaxGrowReach) {
		return 0, api.ErrRange
	}
	t.Design = slices.Clone(t.Design)
	// A thickness that none may have is an error of the task, so this is not released.
	return firstOf(around(t.Design[next].Thick, reach), func(thick int) bool {
		t.Design[next].Thick = thick
		return isReleased(t)
	})
}

// firstOf returns the first of numbers that is one of those asked for.
func firstOf(numbers iter.Seq[int], isOne func(n int) bool) (int, api.Errno) {
	for n := range numbers {
		if isOne(n) {
			return n, api.OK
		}
	}
	return 0, api.ErrNone
}

// downFrom yields the numbers from most down to 0.
func downFrom(most int) iter.Seq[int] {
	return func(yield func(n int) bool) {
		for n := most; n >= 0; n-- {
			if !yield(n) {
				return
			}
		}
	}
}

// around yields the numbers that are at most reach away from a middle, the nearest ones first, of two the lesser one.
func around(middle, reach int) iter.Seq[int] {
	return func(yield func(n int) bool) {
		if !yield(middle) {
			return
		}
		for away := 1; away <= reach; away++ {
			if !yield(middle-away) || !yield(middle+away) {
				return
			}
		}
	}
}
