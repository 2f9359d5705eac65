package stack

import (
	"etalon/api"
	"etalon/whole"
)

// sineOne stands for 1 in products of an index and a sine.
const sineOne = api.IndexOne * api.IndexOne

// NormalIndex returns the normal index of a medium.
func NormalIndex(a api.StackAsk, medium int) (api.Ball, api.Errno) {
	return answered(a, missingMedium(a, medium), func(k *ask) api.Ball { return k.lightIn(medium).normal })
}

// Admittance returns the admittance of a medium.
func Admittance(a api.StackAsk, medium int) (api.Ball, api.Errno) {
	return answered(a, missingMedium(a, medium), func(k *ask) api.Ball { return k.admittance(k.lightIn(medium)) })
}

// light is light in a medium: the square of the index ball, the normal index, whether a medium without loss stops it,
// and of a layer the parts of turns, and of fading.
type light struct {
	square, normal api.Ball
	stopped        bool
	parts          [2]api.Range
}

// medium returns the box of a medium; those around the layers have no thickness.
func (k *ask) medium(number int) api.LayerBox {
	switch number {
	case 0:
		return api.LayerBox{Index: api.Range{Lo: k.Index, Hi: k.Index}}
	case k.last():
		return api.LayerBox{Index: api.Range{Lo: k.On.Index, Hi: k.On.Index}, Loss: k.On.Loss}
	}
	return k.Layers[number-1]
}

// lightIn returns the light in a medium.
func (k *ask) lightIn(number int) light {
	m := k.medium(number)
	n, b := k.indexBall(m), k.sideBall()
	l := light{square: k.times(n, n)}
	v := k.minus(l.square, k.times(b, b))
	if m.Loss == 0 {
		x := k.partsOf(v)[0]
		l.normal, l.stopped = k.realRoot(x), x.Lo < 0
	} else {
		l.normal = k.root(v)
	}
	l.parts = k.partsOf(l.normal)
	// Without loss a normal index is real or imaginary, although its ball has other numbers too.
	if l.stopped {
		l.parts[0] = api.Range{}
	} else if m.Loss == 0 {
		l.parts[1] = api.Range{}
	}
	for i, x := range l.parts {
		l.parts[i] = k.along(m.Thick, x)
	}
	return l
}

// along returns by how many parts light turns (or fades) along thicknesses, by a part of its normal index.
func (k *ask) along(thick, x api.Range) api.Range {
	x = atLeastZero(x)
	return api.Range{
		Lo: whole.Lower(4*x.Lo, thick.Lo, k.Wave.Hi),
		Hi: whole.Upper(4*x.Hi, thick.Hi, k.Wave.Lo),
	}
}

// atLeastZero returns a range each end of which is at least 0.
func atLeastZero(r api.Range) api.Range {
	return api.Range{Lo: max(r.Lo, 0), Hi: max(r.Hi, 0)}
}

// indexBall returns the ball of the complex index of a medium.
func (k *ask) indexBall(m api.LayerBox) api.Ball {
	n := k.scaled(m.Index, 1, api.IndexOne)
	if m.Loss == 0 {
		return n
	}
	return k.plus(n, k.turned(k.ofFrac(m.Loss, api.IndexOne), 1))
}

// sideBall returns the ball of the index along the layers, which is the same in all media.
func (k *ask) sideBall() api.Ball { return k.scaled(k.Sine, k.Index, sineOne) }

// scaled returns the ball of a range times num, in parts of den.
func (c *calculator) scaled(r api.Range, num, den int) api.Ball {
	return c.ofRange(api.Range{Lo: whole.Lower(r.Lo*num, api.One, den), Hi: whole.Upper(r.Hi*num, api.One, den)})
}

// admittance returns the admittance of a medium by the light in it.
func (k *ask) admittance(l light) api.Ball {
	if k.Polar == api.PolarS {
		return l.normal
	}
	return k.quotient(l.square, l.normal)
}
