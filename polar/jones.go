package polar

import (
	"etalon/api"
	"etalon/errs"
)

// CheckVector returns the first error of a wave.
func CheckVector(v api.JonesVector) api.Errno { return checkNumbers(api.MaxJones, v.X, v.Y) }

// CheckJones returns the first error of a Jones matrix.
func CheckJones(m api.JonesMatrix) api.Errno { return checkNumbers(api.MaxJones, m[:]...) }

// StokesOf returns the Stokes vector of a wave.
func StokesOf(v api.JonesVector) (api.Stokes, api.Errno) {
	if e := CheckVector(v); e != api.OK {
		return api.Stokes{}, e
	}
	x, y, both := real(v.X*conj(v.X)), real(v.Y*conj(v.Y)), v.X*conj(v.Y)
	return api.Stokes{int(x + y), int(x - y), int(2 * real(both)), int(-2 * imag(both))}, api.OK
}

// Passed returns a Jones matrix times a wave.
func Passed(m api.JonesMatrix, v api.JonesVector) (api.JonesVector, api.Errno) {
	if e := errs.First(CheckJones(m), CheckVector(v)); e != api.OK {
		return api.JonesVector{}, e
	}
	return resultingWave(api.JonesVector{X: m[0]*v.X + m[1]*v.Y, Y: m[2]*v.X + m[3]*v.Y})
}

// Chained returns the product of two Jones matrices.
func Chained(a, b api.JonesMatrix) (api.JonesMatrix, api.Errno) {
	if e := errs.First(CheckJones(a), CheckJones(b)); e != api.OK {
		return api.JonesMatrix{}, e
	}
	return resultingMatrix(product(a, b))
}

func product(a, b api.JonesMatrix) api.JonesMatrix {
	return api.JonesMatrix{
		a[0]*b[0] + a[1]*b[2], a[0]*b[1] + a[1]*b[3],
		a[2]*b[0] + a[3]*b[2], a[2]*b[1] + a[3]*b[3],
	}
}

// adjoint returns a matrix with rows and columns exchanged, and conjugated.
func adjoint(m api.JonesMatrix) api.JonesMatrix {
	return api.JonesMatrix{conj(m[0]), conj(m[2]), conj(m[1]), conj(m[3])}
}

// resultingWave returns a wave with whole parts as a result.
func resultingWave(v api.JonesVector) (api.JonesVector, api.Errno) {
	if CheckVector(v) != api.OK {
		return api.JonesVector{}, api.ErrLarge
	}
	return api.JonesVector{X: plain(v.X), Y: plain(v.Y)}, api.OK
}

// resultingMatrix returns a Jones matrix with whole parts as a result.
func resultingMatrix(m api.JonesMatrix) (api.JonesMatrix, api.Errno) {
	if CheckJones(m) != api.OK {
		return api.JonesMatrix{}, api.ErrLarge
	}
	for i, z := range m {
		m[i] = plain(z)
	}
	return m, api.OK
}
