package fit

import (
	"etalon/api"
	"etalon/frac"
	"etalon/whole"
)

// fitted is a fit of small changes: a / den and b / den.
type fitted struct{ a, b, den int }

// SmallChange returns the fit of small changes.
func SmallChange(rows [][2]int, values []int) ([2]api.Frac, api.Errno) {
	f, e := fitOf(rows, values)
	if e != api.OK {
		return [2]api.Frac{}, e
	}
	both, e := smallFracs(f.den, f.a, f.b)
	if e != api.OK {
		return [2]api.Frac{}, e
	}
	return [2]api.Frac{both[0], both[1]}, api.OK
}

// Misses returns value less fit of small changes, row by row.
func Misses(rows [][2]int, values []int) ([]api.Frac, api.Errno) {
	f, e := fitOf(rows, values)
	if e != api.OK {
		return nil, e
	}
	misses := make([]int, len(rows))
	for i, row := range rows {
		misses[i] = values[i]*f.den - f.a*row[0] - f.b*row[1]
	}
	return smallFracs(f.den, misses...)
}

// checkRows returns the first error of small changes.
func checkRows(rows [][2]int, values []int) api.Errno {
	if len(rows) == 0 || len(rows) != len(values) {
		return api.ErrShape
	}
	if len(rows) > api.MaxFitRows {
		return api.ErrLarge
	}
	for i, row := range rows {
		for _, n := range [3]int{row[0], row[1], values[i]} {
			if !whole.Sized(n, api.MaxFitPart) {
				return api.ErrRange
			}
		}
	}
	return api.OK
}

// fitOf returns the fit of small changes, or their error. Its numbers are at most 8 * 10^14 in size, and misses times
// den at most 2 * 10^18, so ints hold them.
func fitOf(rows [][2]int, values []int) (fitted, api.Errno) {
	if e := checkRows(rows, values); e != api.OK {
		return fitted{}, e
	}
	// Where the sum of squares is least, the misses are orthogonal to both columns: two equations.
	var xx, xy, yy, xv, yv int
	for i, row := range rows {
		x, y, v := row[0], row[1], values[i]
		xx, xy, yy = xx+x*x, xy+x*y, yy+y*y
		xv, yv = xv+x*v, yv+y*v
	}
	f := fitted{a: xv*yy - yv*xy, b: yv*xx - xv*xy, den: xx*yy - xy*xy}
	if f.den == 0 {
		return fitted{}, api.ErrRank
	}
	return f, api.OK
}

// smallFracs returns numbers divided by den (above 0) in lowest terms, if all of these are small.
func smallFracs(den int, numbers ...int) ([]api.Frac, api.Errno) {
	var l []api.Frac
	for _, n := range numbers {
		f := frac.Lowest(n, den)
		if !frac.Sized(f, api.MaxPart) {
			return nil, api.ErrLarge
		}
		l = append(l, f)
	}
	return l, api.OK
}
