package fit

import (
	"etalon/api"
	"etalon/whole"
)

// The numbers of leaves: a kept one has leafKept, one that the reading r refutes leafRefuted - r. Numbers from 0 on are
// the dimensions of cuts.
const (
	leafKept    = -1
	leafRefuted = -2
)

// search is a task, or a part of it, which has boxes of its own, and as many cuts ahead of them.
type search struct {
	api.FitTask
	cuts int
}

// Refuting returns the number of the first reading that refutes the boxes of a task.
func Refuting(t api.FitTask) (int, api.Errno) {
	answer, reading, e := answerOf(t)
	if e != api.OK {
		return 0, e
	}
	if answer != api.AnswerNo {
		return 0, api.ErrNone
	}
	return reading, api.OK
}

// Explains returns whether the boxes of a task explain its readings.
func Explains(t api.FitTask) (int, api.Errno) {
	answer, _, e := answerOf(t)
	return answer, e
}

// answerOf returns the answer of a task, or its error.
func answerOf(t api.FitTask) (answer, reading int, e api.Errno) {
	if _, e := CheckTask(t); e != api.OK {
		return 0, 0, e
	}
	answer, reading = search{FitTask: t}.answer()
	return answer, reading, api.OK
}

// answer returns AnswerNo and the number of the first reading that refutes the boxes; if there is none AnswerYes if they
// explain all readings, otherwise AnswerMaybe.
func (s search) answer() (answer, reading int) {
	answer = api.AnswerYes
	for i := range s.Readings {
		one := s.answerTo(i)
		if one == api.AnswerNo {
			return one, i
		}
		answer = min(answer, one)
	}
	return answer, 0
}

// answerTo returns AnswerNo if a reading refutes the boxes, AnswerYes if they explain it.
func (s search) answerTo(reading int) int {
	r := s.Readings[reading]
	would, e := predicted(api.FitSetting{Wave: r.Wave, At: r.At}, s.Boxes, s.On)
	if e != api.OK {
		return api.AnswerMaybe
	}
	both, ok := common(would, [3]api.Range{r.N, r.C, r.S})
	switch {
	case !ok:
		return api.AnswerNo
	case both == would:
		return api.AnswerYes
	}
	return api.AnswerMaybe
}

// walk goes through a tree in preorder: it asks for the number of each part, and, if this is a cut, goes on with one half
// after the other. It says whether it came to the end.
func (s search) walk(number func(s search) (n int, on bool)) bool {
	n, on := number(s)
	if !on {
		return false
	}
	if n < 0 {
		return true
	}
	for _, half := range halves(s.Boxes, n) {
		part := s
		part.Boxes = half
		part.cuts++
		if !part.walk(number) {
			return false
		}
	}
	return true
}

// Search returns the tree that is found with a depth.
func Search(t api.FitTask, depth int) ([]int, api.Errno) {
	if _, e := CheckTask(t); e != api.OK {
		return nil, e
	}
	if !whole.Within(depth, 0, api.MaxFitDepth) {
		return nil, api.ErrRange
	}
	var tree []int
	ended := search{FitTask: t}.walk(func(s search) (int, bool) {
		// One number more would be too many, whichever it is.
		if len(tree) == api.MaxFitNodes {
			return 0, false
		}
		n := s.found(depth)
		tree = append(tree, n)
		return n, true
	})
	if !ended {
		return nil, api.ErrLarge
	}
	return tree, api.OK
}

// found returns the number of the boxes in the tree that is found with a depth.
func (s search) found(depth int) int {
	answer, reading := s.answer()
	if answer == api.AnswerNo {
		return leafRefuted - reading
	}
	dimension, ok := widest(s.Boxes)
	if s.cuts == depth || answer == api.AnswerYes || !ok {
		return leafKept
	}
	return dimension
}
