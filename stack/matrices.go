package stack

import "etalon/api"

// quarterTurn is from where on a circle of parts is taken for all numbers of at most 1 in size.
const quarterTurn = api.TurnParts / 4

// PartsOfLayer returns the parts of turns, and of fading, of a layer.
func PartsOfLayer(a api.StackAsk, layer int) ([2]api.Range, api.Errno) {
	return answered(a, missingLayer(a, layer), func(k *ask) [2]api.Range { return k.lightIn(layer).parts })
}

// Factors returns the factor and the double factor of a layer.
func Factors(a api.StackAsk, layer int) ([2]api.Ball, api.Errno) {
	return answered(a, missingLayer(a, layer), func(k *ask) [2]api.Ball {
		l := k.lightIn(layer)
		return [2]api.Ball{k.factor(l), k.doubleFactor(l)}
	})
}

// MatrixOf returns the matrix of a layer, row by row.
func MatrixOf(a api.StackAsk, layer int) ([4]api.Ball, api.Errno) {
	return answered(a, missingLayer(a, layer), func(k *ask) [4]api.Ball {
		l := k.lightIn(layer)
		y := k.admittance(l)
		return k.matrix(y, k.doubleFactor(l))
	})
}

// Product returns the product of the matrices of all layers.
func Product(a api.StackAsk) ([4]api.Ball, api.Errno) {
	return answered(a, api.OK, func(k *ask) [4]api.Ball { return k.product(func(light) {}) })
}

// factor returns the factor of a layer by the light in it.
func (c *calculator) factor(l light) api.Ball {
	return c.times(c.circle(l.parts[0]), c.ofRange(c.fading(l.parts[1])))
}

// doubleFactor returns the factor that a layer of twice the thickness would have.
func (c *calculator) doubleFactor(l light) api.Ball {
	for i, x := range l.parts {
		l.parts[i] = api.Range{Lo: 2 * x.Lo, Hi: 2 * x.Hi}
	}
	return c.factor(l)
}

// circle returns the ball of all unit numbers between parts of a turn.
func (c *calculator) circle(turns api.Range) api.Ball {
	if turns.Hi-turns.Lo >= quarterTurn {
		return api.Ball{R: api.One}
	}
	return c.arc(turns)
}

// matrix returns the matrix of a layer with an admittance and a double factor.
func (c *calculator) matrix(y, g api.Ball) [4]api.Ball {
	half := c.ofFrac(1, 2)
	u := c.times(c.plus(oneBall(), g), half)
	rest := c.times(c.minus(oneBall(), g), half)
	return [4]api.Ball{u, c.quotient(rest, y), c.times(rest, y), u}
}

// product returns the product of the matrices of all layers. Ahead of a layer's matrix, ahead is told of the layer:
// so other operations find their place in the order.
func (k *ask) product(ahead func(l light)) [4]api.Ball {
	p := [4]api.Ball{oneBall(), {}, {}, oneBall()}
	for l := range k.layers() {
		y := k.admittance(l)
		g := k.doubleFactor(l)
		ahead(l)
		p = k.timesMatrix(p, k.matrix(y, g))
	}
	return p
}

// timesMatrix returns the product of two matrices.
func (c *calculator) timesMatrix(p, m [4]api.Ball) [4]api.Ball {
	entry := func(row, column int) api.Ball {
		return c.plus(c.times(p[2*row], m[column]), c.times(p[2*row+1], m[2+column]))
	}
	return [4]api.Ball{entry(0, 0), entry(0, 1), entry(1, 0), entry(1, 1)}
}
