package ball

import (
	"etalon/api"
	"etalon/span"
	"etalon/whole"
)

// Root returns the root with a real part that is not negative.
func Root(b api.Ball) (api.Ball, api.Errno) {
	return ofOne(b, func(b disc) (api.Ball, api.Errno) {
		if b.down() <= b.radius {
			return api.Ball{}, api.ErrZero
		}
		parts := b.parts()
		if parts[0] < 0 && whole.Sized(parts[1], b.radius) && b.radius != 0 {
			return api.Ball{}, api.ErrClash
		}
		return b.root().ball()
	})
}

// root returns the root of a disc without 0. The greater one of the parts is found first, the other one from it:
// so no small number is the difference of two large ones.
func (d disc) root() disc {
	size, parts := d.down(), d.parts()
	x, y := parts[0], parts[1]
	greater := whole.RootDown((size + max(x, -x)) * (api.One / 2))
	lesser := func(y int) int {
		part, _ := whole.Nearest(y, api.One, 2*greater)
		return part
	}
	radius := whole.Upper(d.radius, api.One, whole.RootDown(size*api.One)) + 3 + whole.Upper(api.One, 1, greater)
	switch {
	case x >= 0:
		return disc{centreAt(greater, lesser(y)), radius}
	case y >= 0:
		return disc{centreAt(lesser(y), greater), radius}
	}
	return disc{centreAt(lesser(-y), -greater), radius}
}

// RealRoot returns the ball of the roots of the real numbers of a range.
func RealRoot(r api.Range) (api.Ball, api.Errno) {
	if e := span.Check(r, -api.MaxBall, api.MaxBall); e != api.OK {
		return api.Ball{}, e
	}
	switch {
	case r.Lo >= 0:
		return OfRange(api.Range{Lo: whole.RootDown(r.Lo * api.One), Hi: whole.RootUp(r.Hi * api.One)})
	case r.Hi <= 0:
		b, e := RealRoot(api.Range{Lo: -r.Hi, Hi: -r.Lo})
		if e != api.OK {
			return api.Ball{}, e
		}
		return Turned(b, 1)
	}
	return api.Ball{}, api.ErrClash
}
