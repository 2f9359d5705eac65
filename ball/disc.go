package ball

import (
	"etalon/api"
	"etalon/whole"
)

// centre is a complex number whose parts are whole numbers. They are exact as floats, being at most 2^53 in size:
// those of balls are at most 2^26, so those of their products are at most 2^53.
type centre complex128

func centreAt(x, y int) centre { return centre(whole.Complex(x, y)) }

func (c centre) parts() [2]int { return whole.Parts(complex128(c)) }

func (c centre) plus(d centre) centre  { return c + d }
func (c centre) minus(d centre) centre { return c - d }
func (c centre) times(d centre) centre { return c * d }
func (c centre) mirrored() centre      { return centre(complex(real(c), -imag(c))) }

// square returns the square of the size. It is summed up as ints: between two centres it may be above 2^53.
func (c centre) square() int {
	sum := 0
	for _, x := range c.parts() {
		sum += x * x
	}
	return sum
}

func (c centre) down() int { return whole.RootDown(c.square()) }
func (c centre) up() int   { return whole.RootUp(c.square()) }

// scaled returns the centre times num, divided by den, rounded, and whether it was whole already.
func (c centre) scaled(num, den int) (centre, bool) {
	parts, exact := c.parts(), true
	for i, x := range parts {
		var same bool
		parts[i], same = whole.Nearest(x, num, den)
		exact = exact && same
	}
	return centreAt(parts[0], parts[1]), exact
}

// disc is a checked ball, or the result of an operation ahead of its check.
type disc struct {
	centre
	radius int
}

// ball returns the disc as a result.
func (d disc) ball() (api.Ball, api.Errno) {
	parts := d.parts()
	if !whole.Sized(parts[0], api.MaxBall) || !whole.Sized(parts[1], api.MaxBall) || d.radius > api.MaxBall {
		return api.Ball{}, api.ErrLarge
	}
	return api.Ball{Z: complex128(centreAt(parts[0], parts[1])), R: d.radius}, api.OK
}

// rounded returns a disc whose radius is 1 more if its centre was not exact.
func rounded(c centre, exact bool, radius int) disc {
	if !exact {
		radius++
	}
	return disc{c, radius}
}

// ofOne returns what do makes of a ball, if this is one.
func ofOne[T any](b api.Ball, do func(b disc) (T, api.Errno)) (T, api.Errno) {
	if e := CheckBall(b); e != api.OK {
		var none T
		return none, e
	}
	return do(disc{centre(b.Z), b.R})
}

// ofTwo returns what do makes of two balls, if both are ones.
func ofTwo[T any](a, b api.Ball, do func(a, b disc) (T, api.Errno)) (T, api.Errno) {
	return ofOne(a, func(x disc) (T, api.Errno) {
		return ofOne(b, func(y disc) (T, api.Errno) { return do(x, y) })
	})
}

// checkFrac checks the parts of a fraction, which need not be in lowest terms.
func checkFrac(num, den int) api.Errno {
	if !whole.Sized(num, api.MaxPart) || den < 1 || den > api.MaxPart {
		return api.ErrRange
	}
	return api.OK
}
