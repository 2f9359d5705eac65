package band

import (
	"slices"

	"etalon/api"
	"etalon/frac"
)

// QuarterAdmittance returns the admittance of quarter waves on an admittance.
func QuarterAdmittance(indices []api.Frac, on api.Frac) (api.Frac, api.Errno) {
	if len(indices) > api.MaxLayers {
		return api.Frac{}, api.ErrLarge
	}
	for _, n := range indices {
		if e := checkIndex(n); e != api.OK {
			return api.Frac{}, e
		}
	}
	if e := checkIndex(on); e != api.OK {
		return api.Frac{}, e
	}
	y := on
	for _, n := range slices.Backward(indices) {
		y = frac.Over(frac.Times(n, n), y)
		if !frac.Sized(y, api.MaxPart) {
			return api.Frac{}, api.ErrLarge
		}
	}
	return y, api.OK
}

// ReflectionOf returns the reflection of an admittance seen from an index.
func ReflectionOf(index, y api.Frac) (api.Frac, api.Errno) {
	if !frac.IsLowest(index) || !frac.IsLowest(y) {
		return api.Frac{}, api.ErrForm
	}
	if index.Num <= 0 || !frac.Sized(index, api.MaxPlate) || y.Num <= 0 || !frac.Sized(y, api.MaxPart) {
		return api.Frac{}, api.ErrRange
	}
	// Both denominators cancel out: so the numbers keep within an int.
	a, b := index.Num*y.Den, y.Num*index.Den
	root := frac.Lowest(a-b, a+b)
	// A square has no lesser numbers than its root, which may have too large ones to be squared.
	if !frac.Sized(root, api.MaxPart) {
		return api.Frac{}, api.ErrLarge
	}
	square := frac.Times(root, root)
	if !frac.Sized(square, api.MaxPart) {
		return api.Frac{}, api.ErrLarge
	}
	return square, api.OK
}
