package fit

import (
	"slices"

	"etalon/api"
	"etalon/span"
	"etalon/whole"
)

// rangeOf returns the range of a dimension of boxes, which must be there.
func rangeOf(l []api.LayerBox, dimension int) *api.Range {
	box := &l[dimension/2]
	if dimension%2 == 0 {
		return &box.Index
	}
	return &box.Thick
}

// checkCut returns the error of cutting right boxes by a dimension.
func checkCut(l []api.LayerBox, dimension int) api.Errno {
	if !whole.Within(dimension, 0, 2*len(l)-1) {
		return api.ErrMissing
	}
	if r := rangeOf(l, dimension); r.Lo == r.Hi {
		return api.ErrBreak
	}
	return api.OK
}

// CutOf returns both halves of boxes by a dimension.
func CutOf(l []api.LayerBox, dimension int) ([2][]api.LayerBox, api.Errno) {
	if e := checkBoxes(l); e != api.OK {
		return [2][]api.LayerBox{}, e
	}
	if e := checkCut(l, dimension); e != api.OK {
		return [2][]api.LayerBox{}, e
	}
	return halves(l, dimension), api.OK
}

// halves returns both halves of boxes by a dimension with at least two numbers.
func halves(l []api.LayerBox, dimension int) [2][]api.LayerBox {
	both := [2][]api.LayerBox{slices.Clone(l), slices.Clone(l)}
	first, second := rangeOf(both[0], dimension), rangeOf(both[1], dimension)
	middle := (first.Lo + first.Hi) / 2
	first.Hi, second.Lo = middle, middle+1
	return both
}

// Widest returns the widest dimension of boxes.
func Widest(l []api.LayerBox) (int, api.Errno) {
	if e := checkBoxes(l); e != api.OK {
		return 0, e
	}
	dimension, ok := widest(l)
	if !ok {
		return 0, api.ErrNone
	}
	return dimension, api.OK
}

// widest returns the widest dimension of right boxes, and whether it has more than one number.
func widest(l []api.LayerBox) (int, bool) {
	dimension, width := 0, 0
	for d := range 2 * len(l) {
		if r := rangeOf(l, d); r.Hi-r.Lo > width {
			dimension, width = d, r.Hi-r.Lo
		}
	}
	return dimension, width > 0
}

// Has returns whether layers lie in boxes.
func Has(l []api.LayerBox, layers []api.Layer) (bool, api.Errno) {
	if e := checkBoxes(l); e != api.OK {
		return false, e
	}
	return has(l, layers), api.OK
}

// has says whether layers lie in right boxes.
func has(l []api.LayerBox, layers []api.Layer) bool {
	return slices.EqualFunc(l, layers, func(box api.LayerBox, x api.Layer) bool {
		return whole.Within(x.Index, box.Index.Lo, box.Index.Hi) && whole.Within(x.Thick, box.Thick.Lo, box.Thick.Hi) && x.Loss == box.Loss
	})
}

// HullOf returns the least boxes in which all layers of several boxes lie.
func HullOf(l [][]api.LayerBox) ([]api.LayerBox, api.Errno) {
	if len(l) == 0 {
		return nil, api.ErrShape
	}
	if len(l) > api.MaxFitNodes {
		return nil, api.ErrLarge
	}
	all := slices.Clone(l[0])
	for _, boxes := range l {
		if e := checkBoxes(boxes); e != api.OK {
			return nil, e
		}
		if e := checkAlike(boxes, all); e != api.OK {
			return nil, e
		}
		for d := range 2 * len(all) {
			r := rangeOf(all, d)
			*r = span.Hull(*r, *rangeOf(boxes, d))
		}
	}
	return all, api.OK
}

// checkAlike returns the error of boxes that are not for the same layers as others.
func checkAlike(l, others []api.LayerBox) api.Errno {
	if len(l) != len(others) {
		return api.ErrShape
	}
	for i, box := range l {
		if box.Loss != others[i].Loss {
			return api.ErrClash
		}
	}
	return api.OK
}
