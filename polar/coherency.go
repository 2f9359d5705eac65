package polar

import (
	"etalon/api"
	"etalon/whole"
)

// four is four numbers.
type four [4]complex128

// coherency is the coherency matrix K of a Mueller matrix, row by row.
type coherency [16]complex128

// Coherency returns the coherency matrix of a Mueller matrix.
func Coherency(m api.Mueller) ([16]complex128, api.Errno) {
	if e := CheckMueller(m); e != api.OK {
		return [16]complex128{}, e
	}
	return coherencyOf(m), api.OK
}

func coherencyOf(m api.Mueller) coherency {
	var k coherency
	for i := range k {
		// The bits of i are p, q (the row) and r, t (the column).
		p, q, r, t := i>>3&1, i>>2&1, i>>1&1, i&1
		for a, left := range basis() {
			for b, right := range basis() {
				// A sum that begins with 0 does not become -0.
				k[i] += whole.Complex(m[4*a+b], 0) * left[2*p+r] * conj(right[2*q+t])
			}
		}
	}
	return k
}

// diagonal returns the number in the row and column i, which is real.
func (k coherency) diagonal(i int) int { return int(real(k[5*i])) }

func (k coherency) column(i int) four { return four{k[i], k[4+i], k[8+i], k[12+i]} }

func (k coherency) scaled(by float64) coherency {
	for i, z := range k {
		k[i] = complex(by, 0) * z
	}
	return k
}

func (k coherency) minus(l coherency) coherency {
	for i, z := range l {
		k[i] -= z
	}
	return k
}

// times returns K v.
func (k coherency) times(v four) four {
	var out four
	for i, z := range k {
		out[i/4] += z * v[i%4]
	}
	return out
}

// value returns the value of four numbers. Up to MaxWitness it needs ints, the last products being above 2^53.
func (k coherency) value(v four) int {
	sum := 0
	for i, z := range k.times(v) {
		x, y := whole.Parts(v[i]), whole.Parts(z)
		sum += x[0]*y[0] + x[1]*y[1]
	}
	return sum
}

// with returns v* w.
func (v four) with(w four) complex128 {
	var sum complex128
	for i, z := range v {
		sum += conj(z) * w[i]
	}
	return sum
}

// square returns v v*.
func (v four) square() coherency {
	var k coherency
	for i := range k {
		k[i] = v[i/4] * conj(v[i%4])
	}
	return k
}

// lowest returns numbers that are not all 0, divided by the greatest common divisor of all their parts.
func (v four) lowest() four {
	d := 0
	for _, z := range v {
		parts := whole.Parts(z)
		d = whole.Divisor(d, parts[0], parts[1])
	}
	for i, z := range v {
		parts := whole.Parts(z)
		v[i] = whole.Complex(parts[0]/d, parts[1]/d)
	}
	return v
}
