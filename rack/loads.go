package rack

import (
	"iter"
	"slices"

	"etalon/api"
	"etalon/errs"
	"etalon/text"
	"etalon/whole"
)

// noPlace stands for the place of a part that has none.
const noPlace = -1

// CheckLoad returns the first error of a load, with the number of the part.
func CheckLoad(l api.RackLoad) (int, api.Errno) {
	if !whole.Within(l.Places, 0, api.MaxLoadParts) {
		return 0, api.ErrRange
	}
	if len(l.Parts) > api.MaxLoadParts {
		return 0, api.ErrLarge
	}
	named := map[string]bool{}
	for i, p := range l.Parts {
		if !text.IsName(p.Name) {
			return i, api.ErrName
		}
		if named[p.Name] {
			return i, api.ErrExists
		}
		if e := checkNumbers(p.Fits, l.Places); e != api.OK {
			return i, e
		}
		named[p.Name] = true
	}
	return 0, api.OK
}

// checkNumbers checks numbers of things of which there are so many; they are to ascend.
func checkNumbers(l []int, things int) api.Errno {
	before := -1
	for _, n := range l {
		if !whole.Within(n, 0, things-1) {
			return api.ErrMissing
		}
		if n <= before {
			return api.ErrOrder
		}
		before = n
	}
	return api.OK
}

// CheckPlaces accepts a right assignment, and returns how many parts have a place.
func CheckPlaces(l api.RackLoad, places []int) (int, api.Errno) {
	if _, e := CheckLoad(l); e != api.OK {
		return 0, e
	}
	if len(places) != len(l.Parts) {
		return 0, api.ErrShape
	}
	placed := 0
	for part, place := range places {
		if place == noPlace {
			continue
		}
		if !whole.Within(place, 0, l.Places-1) {
			return 0, api.ErrMissing
		}
		if !slices.Contains(l.Parts[part].Fits, place) {
			return 0, api.ErrForm
		}
		if slices.Contains(places[:part], place) {
			return 0, api.ErrDouble
		}
		placed++
	}
	return placed, api.OK
}

// CheckCover accepts a cover, and returns how many members it has.
func CheckCover(l api.RackLoad, c api.LoadCover) (int, api.Errno) {
	if _, e := CheckLoad(l); e != api.OK {
		return 0, e
	}
	if e := errs.First(checkNumbers(c.Parts, len(l.Parts)), checkNumbers(c.Places, l.Places)); e != api.OK {
		return 0, e
	}
	open := func(place int) bool { return !slices.Contains(c.Places, place) }
	for part, p := range l.Parts {
		if !slices.Contains(c.Parts, part) && slices.ContainsFunc(p.Fits, open) {
			return 0, api.ErrProof
		}
	}
	return len(c.Parts) + len(c.Places), api.OK
}

// loading is a right load whose parts take places, one after the other.
type loading struct {
	api.RackLoad
	parts map[int]int // the part of each place that is taken
}

// seat gives a part a place, for which others may have to take another one, and says whether it has. It leaves out the
// places that are seen already; what it tries is seen.
func (l loading) seat(part int, seen map[int]bool) bool {
	for _, place := range l.Parts[part].Fits {
		if seen[place] {
			continue
		}
		seen[place] = true
		other, taken := l.parts[place]
		if !taken || l.seat(other, seen) {
			l.parts[place] = part
			return true
		}
	}
	return false
}

// BestLoad returns a right assignment in which the most parts have a place, a cover with as many members, and their
// number.
func BestLoad(l api.RackLoad) ([]int, api.LoadCover, int, api.Errno) {
	if _, e := CheckLoad(l); e != api.OK {
		return nil, api.LoadCover{}, 0, e
	}
	x := loading{l, map[int]int{}}
	var left []int
	for part := range l.Parts {
		// A part that gets no place now gets none later, when more are taken.
		if !x.seat(part, map[int]bool{}) {
			left = append(left, part)
		}
	}
	// All that is seen from the parts that are left is taken, and its parts fit nothing else: these places, and the parts
	// in the others, are a cover.
	seen := map[int]bool{}
	for _, part := range left {
		x.seat(part, seen)
	}
	places := slices.Repeat([]int{noPlace}, len(l.Parts))
	var cover api.LoadCover
	for part, place := range x.taken() {
		places[part] = place
		if seen[place] {
			cover.Places = append(cover.Places, place)
		} else {
			cover.Parts = append(cover.Parts, part)
		}
	}
	slices.Sort(cover.Parts)
	return places, cover, len(x.parts), api.OK
}

// taken yields the parts that have places, with these, in their order.
func (l loading) taken() iter.Seq2[int, int] {
	return func(yield func(part, place int) bool) {
		for place := range l.Places {
			if part, taken := l.parts[place]; taken && !yield(part, place) {
				return
			}
		}
	}
}
