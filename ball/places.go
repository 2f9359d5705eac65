package ball

import (
	"etalon/api"
	"etalon/whole"
)

// sizes returns the enclosure of the sizes of the numbers of a disc.
func (d disc) sizes() api.Range {
	return api.Range{Lo: max(d.down()-d.radius, 0), Hi: d.up() + d.radius}
}

// SizeOf returns the enclosure of the sizes of a ball's numbers.
func SizeOf(b api.Ball) (api.Range, api.Errno) {
	return ofOne(b, func(b disc) (api.Range, api.Errno) { return b.sizes(), api.OK })
}

// Energy returns the enclosure of the squares of the sizes.
func Energy(b api.Ball) (api.Range, api.Errno) {
	return ofOne(b, func(b disc) (api.Range, api.Errno) {
		s := b.sizes()
		return api.Range{Lo: whole.Lower(s.Lo, s.Lo, api.One), Hi: whole.Upper(s.Hi, s.Hi, api.One)}, api.OK
	})
}

// PartsOf returns the enclosures of the real and of the imaginary parts.
func PartsOf(b api.Ball) ([2]api.Range, api.Errno) {
	return ofOne(b, func(b disc) ([2]api.Range, api.Errno) {
		var ranges [2]api.Range
		for i, x := range b.parts() {
			ranges[i] = api.Range{Lo: x - b.radius, Hi: x + b.radius}
		}
		return ranges, api.OK
	})
}

// near says whether two centres are at most far (at least 0) apart.
func (c centre) near(d centre, far int) bool {
	return c.minus(d).square() <= far*far
}

// Contains returns whether a number is in a ball.
func Contains(b api.Ball, z complex128) (bool, api.Errno) {
	return ofOne(b, func(b disc) (bool, api.Errno) {
		if e := whole.CheckParts(z, 2*api.MaxBall); e != api.OK {
			return false, e
		}
		return b.near(centre(z), b.radius), api.OK
	})
}

// Meets returns whether two balls have a number in common.
func Meets(a, b api.Ball) (bool, api.Errno) {
	return ofTwo(a, b, func(a, b disc) (bool, api.Errno) {
		return a.near(b.centre, a.radius+b.radius), api.OK
	})
}

// Inside returns whether all numbers of a are in b.
func Inside(a, b api.Ball) (bool, api.Errno) {
	return ofTwo(a, b, func(a, b disc) (bool, api.Errno) {
		room := b.radius - a.radius
		return room >= 0 && a.near(b.centre, room), api.OK
	})
}

// Hull returns a ball with all numbers of both.
func Hull(a, b api.Ball) (api.Ball, api.Errno) {
	return ofTwo(a, b, func(a, b disc) (api.Ball, api.Errno) {
		middle, _ := a.plus(b.centre).scaled(1, 2)
		radius := 0
		for _, d := range [2]disc{a, b} {
			radius = max(radius, d.minus(middle).up()+d.radius)
		}
		return disc{middle, radius}.ball()
	})
}
