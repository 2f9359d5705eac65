package band

import (
	"iter"
	"slices"

	"etalon/api"
	"etalon/stack"
	"etalon/whole"
)

// CheckSearch returns the first error of a search, with the number of the demand or of the option.
func CheckSearch(x api.BandSearch) (int, api.Errno) {
	bare := taskOf(x, nil)
	if i, e := CheckTask(bare); e != api.OK {
		return i, e
	}
	if len(x.Options) == 0 {
		return 0, api.ErrShape
	}
	if len(x.Options) > api.MaxOptions {
		return 0, api.ErrLarge
	}
	// An ask with all options as its layers is right otherwise; it numbers layers from 1 on.
	all := job{bare, x.Demands[0]}
	all.Layers = x.Options
	if layer, e := stack.CheckAsk(all.ask(all.band())); e != api.OK {
		return layer - 1, e
	}
	if !whole.Within(x.Most, 0, api.MaxDesign) {
		return 0, api.ErrRange
	}
	return 0, api.OK
}

// taskOf returns the task of a search with the layers of a list.
func taskOf(x api.BandSearch, list []int) api.BandTask {
	t := api.BandTask{Demands: x.Demands, On: x.On}
	for _, option := range list {
		t.Layers = append(t.Layers, x.Options[option])
	}
	return t
}

// lists yields all lists of so many numbers of options, lexicographically.
func lists(options, length int) iter.Seq[[]int] {
	return func(yield func(list []int) bool) {
		list := make([]int, length)
		for {
			if !yield(slices.Clone(list)) {
				return
			}
			// The next list is counted up to, as a number with these digits.
			last := length - 1
			for last >= 0 && list[last] == options-1 {
				list[last] = 0
				last--
			}
			if last < 0 {
				return
			}
			list[last]++
		}
	}
}

// shorter yields all lists of fewer than so many numbers of options, in their order.
func shorter(options, length int) iter.Seq[[]int] {
	return func(yield func(list []int) bool) {
		for few := range length {
			for list := range lists(options, few) {
				if !yield(list) {
					return
				}
			}
		}
	}
}

// LeastDesign returns the design with the first list that keeps all demands.
func LeastDesign(x api.BandSearch) (api.BandDesign, api.Errno) {
	if _, e := CheckSearch(x); e != api.OK {
		return api.BandDesign{}, e
	}
	var refuted []api.BandPoint
	for length := range x.Most + 1 {
		d, points, e := designOf(x, length)
		if e == api.OK {
			d.Refuted = refuted
			return d, api.OK
		}
		if e != api.ErrNone {
			return api.BandDesign{}, e
		}
		refuted = append(refuted, points...)
	}
	return api.BandDesign{}, api.ErrNone
}

// designOf returns the list and the trees of the first list of a length that keeps all demands. Beside ErrNone it
// returns the points that refute all lists of this length.
func designOf(x api.BandSearch, length int) (api.BandDesign, []api.BandPoint, api.Errno) {
	var points []api.BandPoint
	open := false
	for list := range lists(len(x.Options), length) {
		answer, trees, point, e := Answer(taskOf(x, list))
		switch {
		case e != api.OK:
			return api.BandDesign{}, nil, e
		case answer == api.AnswerYes:
			return api.BandDesign{Layers: list, Trees: trees}, nil, api.OK
		case answer == api.AnswerMaybe:
			open = true
		default:
			points = append(points, point)
		}
	}
	if open {
		return api.BandDesign{}, nil, api.ErrOpen
	}
	return api.BandDesign{}, points, api.ErrNone
}

// CheckDesign accepts a design, and returns how many layers it has.
func CheckDesign(x api.BandSearch, d api.BandDesign) (int, api.Errno) {
	if _, e := CheckSearch(x); e != api.OK {
		return 0, e
	}
	if len(d.Layers) > x.Most {
		return 0, api.ErrLarge
	}
	for _, option := range d.Layers {
		if !whole.Within(option, 0, len(x.Options)-1) {
			return 0, api.ErrMissing
		}
	}
	fewer := slices.Collect(shorter(len(x.Options), len(d.Layers)))
	if len(d.Trees) != len(x.Demands) || len(d.Refuted) != len(fewer) {
		return 0, api.ErrShape
	}
	t := taskOf(x, d.Layers)
	for i, tree := range d.Trees {
		if _, e := CheckTree(t, i, tree); e != api.OK {
			return 0, e
		}
	}
	for i, point := range d.Refuted {
		if e := CheckPoint(taskOf(x, fewer[i]), point); e != api.OK {
			return 0, e
		}
	}
	return len(d.Layers), api.OK
}
