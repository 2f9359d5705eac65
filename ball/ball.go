// Package ball is chapter 1: complex numbers with radii. See shared/doc/01-ball.md.
package ball

import (
	"etalon/api"
	"etalon/span"
	"etalon/whole"
)

// CheckBall returns the first error of a ball.
func CheckBall(b api.Ball) api.Errno {
	if e := whole.CheckParts(b.Z, api.MaxBall); e != api.OK {
		return e
	}
	if b.R < 0 || b.R > api.MaxBall {
		return api.ErrRange
	}
	return api.OK
}

// OfRange returns the ball of the real numbers of a range, in parts of One.
func OfRange(r api.Range) (api.Ball, api.Errno) {
	if e := span.Check(r, -api.MaxBall, api.MaxBall); e != api.OK {
		return api.Ball{}, e
	}
	middle := whole.Lower(r.Lo+r.Hi, 1, 2)
	return disc{centreAt(middle, 0), r.Hi - middle}.ball()
}

// OfFrac returns the ball of num / den.
func OfFrac(num, den int) (api.Ball, api.Errno) {
	if e := checkFrac(num, den); e != api.OK {
		return api.Ball{}, e
	}
	c, exact := centreAt(num, 0).scaled(api.One, den)
	return rounded(c, exact, 0).ball()
}

// Plus returns the sum of two balls.
func Plus(a, b api.Ball) (api.Ball, api.Errno) {
	return ofTwo(a, b, func(a, b disc) (api.Ball, api.Errno) {
		return disc{a.plus(b.centre), a.radius + b.radius}.ball()
	})
}

// Minus returns the difference of two balls.
func Minus(a, b api.Ball) (api.Ball, api.Errno) {
	return ofTwo(a, b, func(a, b disc) (api.Ball, api.Errno) {
		return disc{a.minus(b.centre), a.radius + b.radius}.ball()
	})
}

// Conj returns the ball of the conjugates.
func Conj(b api.Ball) (api.Ball, api.Errno) {
	return ofOne(b, func(b disc) (api.Ball, api.Errno) {
		return disc{b.mirrored(), b.radius}.ball()
	})
}

// Turned returns the ball turned by quarters of a turn.
func Turned(b api.Ball, quarters int) (api.Ball, api.Errno) {
	return ofOne(b, func(b disc) (api.Ball, api.Errno) {
		if !whole.Sized(quarters, api.MaxPart) {
			return api.Ball{}, api.ErrRange
		}
		powers := [4]centre{1, 1i, -1, -1i}
		// The last two bits are those of the quarters from 0 to 3, below 0 too.
		return disc{b.times(powers[quarters&3]), b.radius}.ball()
	})
}

// Times returns the product of two balls.
func Times(a, b api.Ball) (api.Ball, api.Errno) {
	return ofTwo(a, b, func(a, b disc) (api.Ball, api.Errno) {
		c, exact := a.times(b.centre).scaled(1, api.One)
		spread := a.up()*b.radius + b.up()*a.radius + a.radius*b.radius
		return rounded(c, exact, whole.Upper(spread, 1, api.One)).ball()
	})
}

// Quotient returns the quotient of two balls.
func Quotient(a, b api.Ball) (api.Ball, api.Errno) {
	return ofTwo(a, b, func(a, b disc) (api.Ball, api.Errno) {
		least := b.down() - b.radius
		if least <= 0 {
			return api.Ball{}, api.ErrZero
		}
		c, exact := a.times(b.mirrored()).scaled(api.One, b.square())
		spread := a.radius*b.up() + a.up()*b.radius
		return rounded(c, exact, whole.Upper(spread, api.One, least*b.down())).ball()
	})
}
