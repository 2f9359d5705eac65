package band

import (
	"slices"

	"etalon/api"
	"etalon/frac"
)

// CheckPlates returns the first error of plates, with the number of the plate.
func CheckPlates(l []api.BandPlate) (int, api.Errno) {
	if len(l) > api.MaxPlates {
		return 0, api.ErrLarge
	}
	for i, p := range l {
		if e := checkPlate(p); e != api.OK {
			return i, e
		}
	}
	return 0, api.OK
}

func checkPlate(p api.BandPlate) api.Errno {
	if e := checkIndex(p.Index); e != api.OK {
		return e
	}
	if e := checkFrac(p.Half); e != api.OK {
		return e
	}
	if p.Open && p.Half.Num != 0 {
		return api.ErrClash
	}
	return api.OK
}

// checkFrac returns the error of a plate's fraction.
func checkFrac(f api.Frac) api.Errno {
	if !frac.IsLowest(f) {
		return api.ErrForm
	}
	if !frac.Sized(f, api.MaxPlate) {
		return api.ErrRange
	}
	return api.OK
}

// checkIndex returns the error of a plate's fraction that must be above 0.
func checkIndex(f api.Frac) api.Errno {
	if e := checkFrac(f); e != api.OK {
		return e
	}
	if f.Num <= 0 {
		return api.ErrRange
	}
	return api.OK
}

// matrix is the matrix of plates. The second and the third number stand for imaginary ones.
type matrix [4]api.Frac

// ofNone returns the matrix of no plates.
func ofNone() matrix { return matrix{{Num: 1, Den: 1}, {Den: 1}, {Den: 1}, {Num: 1, Den: 1}} }

// ofPlate returns the matrix of a right plate.
func ofPlate(p api.BandPlate) matrix {
	cosine, sine := api.Frac{Num: -1, Den: 1}, api.Frac{Den: 1}
	if !p.Open {
		x, y := p.Half.Num, p.Half.Den
		cosine, sine = frac.Lowest(y*y-x*x, y*y+x*x), frac.Lowest(2*x*y, y*y+x*x)
	}
	return matrix{cosine, frac.Over(sine, p.Index), frac.Times(sine, p.Index), cosine}
}

// times returns the product of two fit matrices.
func (m matrix) times(n matrix) matrix {
	less := func(a, b, c, d api.Frac) api.Frac { return frac.Minus(frac.Times(a, b), frac.Times(c, d)) }
	more := func(a, b, c, d api.Frac) api.Frac { return frac.Plus(frac.Times(a, b), frac.Times(c, d)) }
	return matrix{
		less(m[0], n[0], m[1], n[2]), more(m[0], n[1], m[1], n[3]),
		more(m[2], n[0], m[3], n[2]), less(m[3], n[3], m[2], n[1]),
	}
}

// isFit says whether all fractions of a matrix are fit.
func (m matrix) isFit() bool {
	for _, f := range m {
		if !frac.Sized(f, api.MaxPlatePart) {
			return false
		}
	}
	return true
}

// ofGroup returns the matrix of a group, or its first error.
func ofGroup(l []api.BandPlate) (matrix, api.Errno) {
	if _, e := CheckPlates(l); e != api.OK {
		return matrix{}, e
	}
	m := ofNone()
	for _, p := range l {
		own := ofPlate(p)
		if !own.isFit() {
			return matrix{}, api.ErrLarge
		}
		if m = m.times(own); !m.isFit() {
			return matrix{}, api.ErrLarge
		}
	}
	return m, api.OK
}

// MatrixOf returns the matrix of a group.
func MatrixOf(l []api.BandPlate) ([4]api.Frac, api.Errno) {
	m, e := ofGroup(l)
	return m, e
}

// IsSymmetric returns whether a group is the same from the last plate to the first one.
func IsSymmetric(l []api.BandPlate) (bool, api.Errno) {
	if _, e := CheckPlates(l); e != api.OK {
		return false, e
	}
	// Fractions in lowest terms are the same just if their numbers are.
	turned := slices.Clone(l)
	slices.Reverse(turned)
	return slices.Equal(l, turned), api.OK
}

// Equivalent returns the plate that does what a group does.
func Equivalent(l []api.BandPlate) (api.BandEquivalent, api.Errno) {
	m, e := ofGroup(l)
	switch {
	case e != api.OK:
		return api.BandEquivalent{}, e
	case m[0] != m[3]:
		return api.BandEquivalent{}, api.ErrKind
	case m[1].Num == 0:
		return api.BandEquivalent{}, api.ErrZero
	}
	square := frac.Over(m[2], m[1])
	if square.Num <= 0 {
		return api.BandEquivalent{}, api.ErrNone
	}
	return api.BandEquivalent{Square: square, Cosine: m[0]}, api.OK
}

// PlateOf returns the plate of an equivalent.
func PlateOf(x api.BandEquivalent) (api.BandPlate, api.Errno) {
	if !frac.IsLowest(x.Square) || !frac.IsLowest(x.Cosine) {
		return api.BandPlate{}, api.ErrForm
	}
	if !frac.Sized(x.Square, api.MaxPart) || !frac.Sized(x.Cosine, api.MaxPart) {
		return api.BandPlate{}, api.ErrRange
	}
	p, ok := plateOf(x)
	if !ok {
		return api.BandPlate{}, api.ErrNone
	}
	if !frac.Sized(p.Index, api.MaxPlate) || !frac.Sized(p.Half, api.MaxPlate) {
		return api.BandPlate{}, api.ErrLarge
	}
	return p, api.OK
}

// plateOf returns the plate of an equivalent, whatever its numbers are, and whether there is one.
func plateOf(x api.BandEquivalent) (api.BandPlate, bool) {
	index, ok := frac.Root(x.Square)
	if !ok || index.Num == 0 {
		return api.BandPlate{}, false
	}
	less, more := x.Cosine.Den-x.Cosine.Num, x.Cosine.Den+x.Cosine.Num
	if more == 0 {
		return api.BandPlate{Index: index, Half: api.Frac{Den: 1}, Open: true}, true
	}
	// Of a cosine that is not from -1 to 1 this fraction is below 0, so it is no square.
	half, ok := frac.Root(frac.Lowest(less, more))
	return api.BandPlate{Index: index, Half: half}, ok
}
