package polar

import (
	"etalon/api"
	"etalon/errs"
	"etalon/whole"
)

// CheckStokes returns the first error of a Stokes vector.
func CheckStokes(s api.Stokes) api.Errno {
	if !areSized(api.MaxStokes, s[:]...) {
		return api.ErrRange
	}
	if s[0] < 0 || squares(s[0]) < squares(s[1:]...) {
		return api.ErrBreak
	}
	return api.OK
}

// Degree returns the square of the polarised share of a Stokes vector.
func Degree(s api.Stokes) (api.Frac, api.Errno) {
	if e := CheckStokes(s); e != api.OK {
		return api.Frac{}, e
	}
	if s[0] == 0 {
		return api.Frac{}, api.ErrZero
	}
	return smallFrac(squares(s[1:]...), squares(s[0]))
}

// CheckMueller returns the error of a Mueller matrix.
func CheckMueller(m api.Mueller) api.Errno {
	if !areSized(api.MaxStokes, m[:]...) {
		return api.ErrRange
	}
	return api.OK
}

// checkUpTo returns the first error of a Mueller matrix whose numbers are to be at most most in size.
func checkUpTo(most int, m api.Mueller) api.Errno {
	if e := CheckMueller(m); e != api.OK {
		return e
	}
	if !areSized(most, m[:]...) {
		return api.ErrLarge
	}
	return api.OK
}

// MuellerOf returns the Mueller matrix of a Jones matrix.
func MuellerOf(j api.JonesMatrix) (api.Mueller, api.Errno) {
	if e := CheckJones(j); e != api.OK {
		return api.Mueller{}, e
	}
	var m api.Mueller
	for a, left := range basis() {
		for b, right := range basis() {
			all := product(product(left, j), product(right, adjoint(j)))
			m[4*a+b] = int(real(all[0] + all[3]))
		}
	}
	return m, api.OK
}

// basis returns the matrices s0 to s3.
func basis() [4]api.JonesMatrix {
	return [4]api.JonesMatrix{{1, 0, 0, 1}, {1, 0, 0, -1}, {0, 1, 1, 0}, {0, -1i, 1i, 0}}
}

// Through returns a Mueller matrix times a Stokes vector.
func Through(m api.Mueller, s api.Stokes) (api.Stokes, api.Errno) {
	if e := errs.First(CheckMueller(m), CheckStokes(s)); e != api.OK {
		return api.Stokes{}, e
	}
	out := through(m, s)
	if !areSized(api.MaxStokes, out[:]...) {
		return api.Stokes{}, api.ErrLarge
	}
	return out, api.OK
}

// through needs ints: four products of numbers up to MaxStokes are up to 2^62.
func through(m api.Mueller, s [4]int) [4]int {
	var out [4]int
	for i, n := range m {
		out[i/4] += n * s[i%4]
	}
	return out
}

// Joined returns the product of two Mueller matrices.
func Joined(a, b api.Mueller) (api.Mueller, api.Errno) {
	if e := errs.First(CheckMueller(a), CheckMueller(b)); e != api.OK {
		return api.Mueller{}, e
	}
	var m api.Mueller
	for column := range 4 {
		for row, n := range through(a, [4]int{b[column], b[4+column], b[8+column], b[12+column]}) {
			m[4*row+column] = n
		}
	}
	if CheckMueller(m) != api.OK {
		return api.Mueller{}, api.ErrLarge
	}
	return m, api.OK
}

// Depolarised returns the squares of all numbers but the first one, by three times its square.
func Depolarised(m api.Mueller) (api.Frac, api.Errno) {
	if e := checkUpTo(api.MaxPure, m); e != api.OK {
		return api.Frac{}, e
	}
	if m[0] == 0 {
		return api.Frac{}, api.ErrZero
	}
	return smallFrac(squares(m[1:]...), 3*squares(m[0]))
}

// PassiveWithin returns whether light of any polarisation gets out as at most scale times as much.
func PassiveWithin(m api.Mueller, scale int) (bool, api.Errno) {
	if e := CheckMueller(m); e != api.OK {
		return false, e
	}
	if !whole.Within(scale, 0, api.MaxStokes) {
		return false, api.ErrRange
	}
	room := scale - m[0]
	return room >= 0 && squares(m[1:4]...) <= squares(room), api.OK
}
