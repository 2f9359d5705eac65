package polar

import (
	"etalon/api"
	"etalon/errs"
	"etalon/whole"
)

// mostTerms is how many terms a sum of squares may have.
const mostTerms = 16

// checkTested returns the first error of a tested matrix.
func checkTested(m api.Mueller) api.Errno { return checkUpTo(api.MaxPhysical, m) }

// JonesOf returns the Jones matrix of a pure Mueller matrix.
func JonesOf(m api.Mueller) (api.JonesMatrix, api.Errno) {
	if e := checkUpTo(api.MaxPure, m); e != api.OK {
		return api.JonesMatrix{}, e
	}
	column, pure := coherencyOf(m).root()
	if !pure {
		return api.JonesMatrix{}, api.ErrNone
	}
	return resultingMatrix(api.JonesMatrix(column.lowest()))
}

// root returns the first column with a number above 0 in the diagonal, and whether its square is the matrix times this.
func (k coherency) root() (column four, pure bool) {
	for i := range 4 {
		if d := k.diagonal(i); d > 0 {
			column = k.column(i)
			return column, column.square() == k.scaled(float64(d))
		}
	}
	return four{}, false
}

// Physical returns whether a sample may have a Mueller matrix.
func Physical(m api.Mueller) (bool, api.Errno) {
	if e := checkTested(m); e != api.OK {
		return false, e
	}
	_, _, physical := coherencyOf(m).pivots()
	return physical, api.OK
}

// Witness returns a witness against a Mueller matrix, and its value.
func Witness(m api.Mueller) ([4]complex128, int, api.Errno) {
	if e := checkTested(m); e != api.OK {
		return [4]complex128{}, 0, e
	}
	k := coherencyOf(m)
	_, v, physical := k.pivots()
	if physical {
		return [4]complex128{}, 0, api.ErrState
	}
	return v, k.value(v), api.OK
}

// CheckWitness accepts a witness against a Mueller matrix, and returns its value.
func CheckWitness(m api.Mueller, v [4]complex128) (int, api.Errno) {
	if e := errs.First(checkTested(m), checkNumbers(api.MaxWitness, v[:]...)); e != api.OK {
		return 0, e
	}
	value := coherencyOf(m).value(v)
	if value >= 0 {
		return 0, api.ErrProof
	}
	return value, api.OK
}

// Squares returns the squares of a physical matrix.
func Squares(m api.Mueller) (api.PolarSquares, api.Errno) {
	if e := checkTested(m); e != api.OK {
		return api.PolarSquares{}, e
	}
	l, _, physical := coherencyOf(m).pivots()
	if !physical {
		return api.PolarSquares{}, api.ErrState
	}
	times := 1
	for _, p := range l {
		// The denominator divides a product of two minors along the diagonal of K, the numbers of which are together at
		// most 4 MaxPhysical: it is below 2^30, so ints hold the multiple.
		_, weight := p.square()
		if times *= weight.Den / whole.Divisor(times, weight.Den); times > api.MaxPart {
			return api.PolarSquares{}, api.ErrLarge
		}
	}
	x := api.PolarSquares{Times: times}
	for _, p := range l {
		v, weight := p.square()
		x.Terms = append(x.Terms, api.PolarSquare{Weight: weight.Num * (times / weight.Den), Matrix: api.JonesMatrix(v)})
	}
	return x, api.OK
}

// CheckSquares accepts a sum of squares that is a Mueller matrix, and returns how many terms it has.
func CheckSquares(m api.Mueller, x api.PolarSquares) (int, api.Errno) {
	if e := checkTested(m); e != api.OK {
		return 0, e
	}
	if !whole.Within(x.Times, 1, api.MaxPart) {
		return 0, api.ErrRange
	}
	if len(x.Terms) > mostTerms {
		return 0, api.ErrLarge
	}
	for _, term := range x.Terms {
		if !whole.Within(term.Weight, 1, api.MaxSquare) {
			return 0, api.ErrRange
		}
		if e := checkNumbers(api.MaxWitness, term.Matrix[:]...); e != api.OK {
			return 0, e
		}
	}
	if !coherencyOf(m).scaled(float64(x.Times)).isSum(x.Terms) {
		return 0, api.ErrProof
	}
	return len(x.Terms), api.OK
}

// isSum says whether terms add up to the matrix. The numbers of a term with no more in the diagonal than what is left
// there are small enough to be exact. One with more makes what is left less than 0, and no other one takes this back.
func (k coherency) isSum(terms []api.PolarSquare) bool {
	for _, term := range terms {
		k = k.minus(four(term.Matrix).square().scaled(float64(term.Weight)))
	}
	return k == coherency{}
}
