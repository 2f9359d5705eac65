package polar

import (
	"etalon/api"
	"etalon/errs"
	"etalon/whole"
)

// CheckTurn returns the first error of a turn.
func CheckTurn(t api.PolarTurn) api.Errno {
	if !whole.Within(t.R, 1, api.MaxTurnSide) {
		return api.ErrRange
	}
	// The squares of numbers above R may be more than ints hold.
	if !areSized(t.R, t.P, t.Q) || squares(t.P, t.Q) != squares(t.R) {
		return api.ErrShape
	}
	return api.OK
}

// Rotation returns the rotation of a turn.
func Rotation(t api.PolarTurn) (api.JonesMatrix, api.Errno) {
	if e := CheckTurn(t); e != api.OK {
		return api.JonesMatrix{}, e
	}
	return resultingMatrix(rotation(t))
}

func rotation(t api.PolarTurn) api.JonesMatrix {
	p, q := whole.Complex(t.P, 0), whole.Complex(t.Q, 0)
	return api.JonesMatrix{p, -q, q, p}
}

// Turned returns a Jones matrix, turned.
func Turned(m api.JonesMatrix, t api.PolarTurn) (api.JonesMatrix, api.Errno) {
	if e := errs.First(CheckJones(m), CheckTurn(t)); e != api.OK {
		return api.JonesMatrix{}, e
	}
	return resultingMatrix(turned(m, t))
}

func turned(m api.JonesMatrix, t api.PolarTurn) api.JonesMatrix {
	back := api.PolarTurn{P: t.P, Q: -t.Q, R: t.R}
	return product(product(rotation(t), m), rotation(back))
}

// Polariser returns the polariser at a turn.
func Polariser(t api.PolarTurn) (api.JonesMatrix, api.Errno) {
	if e := CheckTurn(t); e != api.OK {
		return api.JonesMatrix{}, e
	}
	p, q := whole.Complex(t.P, 0), whole.Complex(t.Q, 0)
	return resultingMatrix(api.JonesMatrix{p * p, p * q, p * q, q * q})
}

// Plate returns the plate with a phase at a turn.
func Plate(phase, t api.PolarTurn) (api.JonesMatrix, api.Errno) {
	if e := errs.First(CheckTurn(phase), CheckTurn(t)); e != api.OK {
		return api.JonesMatrix{}, e
	}
	along := api.JonesMatrix{whole.Complex(phase.R, 0), 0, 0, whole.Complex(phase.P, phase.Q)}
	return resultingMatrix(turned(along, t))
}
