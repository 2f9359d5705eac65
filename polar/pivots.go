package polar

import (
	"math"

	"etalon/api"
	"etalon/frac"
	"etalon/whole"
)

// pivot is a step of the elimination of a coherency matrix K, at a row. numbers are whole, without a common divisor,
// above 0 at the row, and 0 behind it; image is K times them, and 0 in the rows of the pivots before. So image, divided
// by the number at the row, is the column that is left there.
type pivot struct {
	row            int
	numbers, image four
}

// own returns the number of the image at the row, which is real.
func (p pivot) own() float64 { return real(p.image[p.row]) }

// pivotAt returns the pivot at a row behind others.
func (k coherency) pivotAt(row int, before []pivot) pivot {
	var v four
	v[row] = 1
	for _, p := range before {
		// By this the image becomes 0 in the row of p, and stays 0 in the rows before.
		mine, shared := complex(p.own(), 0)*p.numbers[p.row], p.image.with(v)
		for i, z := range p.numbers {
			v[i] = mine*v[i] - shared*z
		}
		v = v.lowest()
	}
	return pivot{row, v, k.times(v)}
}

// pivots returns the pivots with which all of a physical matrix is eliminated. Of another one it returns a witness.
func (k coherency) pivots() (l []pivot, witness four, physical bool) {
	for row := range 4 {
		p := k.pivotAt(row, l)
		switch {
		case p.image == four{}:
			// Nothing is left in this row and column.
		case p.own() > 0:
			l = append(l, p)
		case p.own() < 0:
			return nil, p.numbers, false
		default:
			return nil, k.beside(p), false
		}
	}
	return l, four{}, true
}

// beside returns a witness by a pivot whose numbers have the value 0, but whose image is not 0: a unit number at a place
// where the image is not 0 adds its number of the diagonal to the value, and takes away twice the greater part of the
// image there for each time that the numbers are taken.
func (k coherency) beside(p pivot) four {
	place := 0
	for p.image[place] == 0 {
		place++
	}
	unit, part := opposite(p.image[place])
	times := 1 + max(0, k.diagonal(place))/(2*part)
	v := p.numbers
	for i, z := range v {
		v[i] = whole.Complex(times, 0) * z
	}
	v[place] = unit
	return v.lowest()
}

// opposite returns the unit number that is the most opposite to z, and the size of the greater part of z.
func opposite(z complex128) (complex128, int) {
	x, y := real(z), imag(z)
	if math.Abs(x) >= math.Abs(y) {
		return complex(-math.Copysign(1, x), 0), int(math.Abs(x))
	}
	return complex(0, -math.Copysign(1, y)), int(math.Abs(y))
}

// square returns the numbers v and the weight w for which w v v* has the row and the column that are left at the pivot.
func (p pivot) square() (v four, weight api.Frac) {
	v = p.image.lowest()
	at := int(real(v[p.row]))
	return v, frac.Lowest(int(p.own()), int(real(p.numbers[p.row]))*at*at)
}
