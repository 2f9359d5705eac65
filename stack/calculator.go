package stack

import (
	"etalon/api"
	"etalon/ball"
)

// calculator does operations of balls one after the other, and keeps their first error: from then on it does none,
// and all results are zero values.
type calculator struct{ errno api.Errno }

// stop keeps an error, unless there is an earlier one.
func (c *calculator) stop(e api.Errno) {
	if c.errno == api.OK {
		c.errno = e
	}
}

// result returns the result of an operation, and keeps its error.
func result[T any](c *calculator, operation func() (T, api.Errno)) T {
	if c.errno != api.OK {
		var none T
		return none
	}
	x, e := operation()
	c.errno = e
	return x
}

// oneBall is the exact ball One. (0 is the zero value.)
func oneBall() api.Ball { return api.Ball{Z: api.One} }

func (c *calculator) plus(a, b api.Ball) api.Ball {
	return result(c, func() (api.Ball, api.Errno) { return ball.Plus(a, b) })
}

func (c *calculator) minus(a, b api.Ball) api.Ball {
	return result(c, func() (api.Ball, api.Errno) { return ball.Minus(a, b) })
}

func (c *calculator) times(a, b api.Ball) api.Ball {
	return result(c, func() (api.Ball, api.Errno) { return ball.Times(a, b) })
}

func (c *calculator) quotient(a, b api.Ball) api.Ball {
	return result(c, func() (api.Ball, api.Errno) { return ball.Quotient(a, b) })
}

func (c *calculator) turned(b api.Ball, quarters int) api.Ball {
	return result(c, func() (api.Ball, api.Errno) { return ball.Turned(b, quarters) })
}

func (c *calculator) root(b api.Ball) api.Ball {
	return result(c, func() (api.Ball, api.Errno) { return ball.Root(b) })
}

func (c *calculator) realRoot(r api.Range) api.Ball {
	return result(c, func() (api.Ball, api.Errno) { return ball.RealRoot(r) })
}

func (c *calculator) ofRange(r api.Range) api.Ball {
	return result(c, func() (api.Ball, api.Errno) { return ball.OfRange(r) })
}

func (c *calculator) ofFrac(num, den int) api.Ball {
	return result(c, func() (api.Ball, api.Errno) { return ball.OfFrac(num, den) })
}

func (c *calculator) arc(turns api.Range) api.Ball {
	return result(c, func() (api.Ball, api.Errno) { return ball.Arc(turns) })
}

func (c *calculator) fading(turns api.Range) api.Range {
	return result(c, func() (api.Range, api.Errno) { return ball.Fading(turns) })
}

func (c *calculator) partsOf(b api.Ball) [2]api.Range {
	return result(c, func() ([2]api.Range, api.Errno) { return ball.PartsOf(b) })
}

func (c *calculator) sizeOf(b api.Ball) api.Range {
	return result(c, func() (api.Range, api.Errno) { return ball.SizeOf(b) })
}

func (c *calculator) energy(b api.Ball) api.Range {
	return result(c, func() (api.Range, api.Errno) { return ball.Energy(b) })
}
