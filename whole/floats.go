package whole

import (
	"math"

	"etalon/api"
)

// IsWhole says whether a float is a whole number. An infinity is its own whole part, a NaN is not even itself.
func IsWhole(x float64) bool {
	return !math.IsInf(x, 0) && math.Trunc(x) == x
}

// CheckParts checks a complex number whose parts are to be whole, and at most most in size. It looks at both parts
// for ErrWhole before it looks at their sizes.
func CheckParts(z complex128, most float64) api.Errno {
	if !IsWhole(real(z)) || !IsWhole(imag(z)) {
		return api.ErrWhole
	}
	if math.Abs(real(z)) > most || math.Abs(imag(z)) > most {
		return api.ErrRange
	}
	return api.OK
}

// Parts returns the parts of a complex number, which must be whole. They are ints, so that a -0 becomes 0.
func Parts(z complex128) [2]int { return [2]int{int(real(z)), int(imag(z))} }

// Complex returns the complex number with two parts, which are exact up to 2^53 in size.
func Complex(x, y int) complex128 { return complex(float64(x), float64(y)) }
