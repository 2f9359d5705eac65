package stack

import (
	"etalon/api"
	"etalon/whole"
)

// FromBelow returns the reflected and the transmitted amplitude, found from the substrate upwards.
func FromBelow(a api.StackAsk) ([2]api.Ball, api.Errno) {
	return answered(a, api.OK, func(k *ask) [2]api.Ball { return k.fromBelow() })
}

// Paths returns the ball of the reflected amplitude of a layer, by the sum of all paths: those up to a count are
// added, the rest of them is bounded.
func Paths(a api.StackAsk, count int) (api.Ball, api.Errno) {
	return answered(a, checkPaths(a, count), func(k *ask) api.Ball { return k.paths(count) })
}

// checkPaths returns the error of a sum of paths.
func checkPaths(a api.StackAsk, count int) api.Errno {
	if len(a.Layers) != 1 {
		return api.ErrShape
	}
	if !whole.Within(count, 0, api.MaxPaths) {
		return api.ErrRange
	}
	return api.OK
}

// surfaces is the light in all media and their admittances: surface j lies between the media j and j + 1.
type surfaces struct {
	lights      []light
	admittances []api.Ball
}

func (k *ask) surfaces() surfaces {
	var s surfaces
	for number := range k.last() + 1 {
		l := k.lightIn(number)
		s.lights = append(s.lights, l)
		s.admittances = append(s.admittances, k.admittance(l))
	}
	return s
}

// reflectedAt returns what a surface alone reflects.
func (c *calculator) reflectedAt(s surfaces, j int) api.Ball {
	above, below := s.admittances[j], s.admittances[j+1]
	difference := c.minus(above, below)
	return c.quotient(difference, c.plus(above, below))
}

func (k *ask) fromBelow() [2]api.Ball {
	s := k.surfaces()
	r := k.reflectedAt(s, len(k.Layers))
	t := k.plus(oneBall(), r)
	for j := len(k.Layers) - 1; j >= 0; j-- {
		n, l := k.reflectedAt(s, j), s.lights[j+1]
		g, f := k.doubleFactor(l), k.factor(l)
		z := k.times(r, g)
		e := k.plus(oneBall(), k.times(n, z))
		r = k.quotient(k.plus(n, z), e)
		t = k.quotient(k.times(k.plus(oneBall(), n), k.times(f, t)), e)
	}
	return [2]api.Ball{r, t}
}

func (k *ask) paths(count int) api.Ball {
	s := k.surfaces()
	n := k.reflectedAt(s, 0)
	z := k.times(k.reflectedAt(s, 1), k.doubleFactor(s.lights[1]))
	x := k.times(n, z)
	sum, term := oneBall(), oneBall()
	for range count {
		term = k.minus(api.Ball{}, k.times(term, x))
		sum = k.plus(sum, term)
	}
	first := k.times(k.minus(oneBall(), k.times(n, n)), z)
	size := k.sizeOf(x).Hi
	if size >= api.One {
		k.stop(api.ErrBreak)
	}
	b := k.plus(n, k.times(first, sum))
	most := k.sizeOf(first).Hi
	if k.errno != api.OK {
		return api.Ball{}
	}
	b.R += restOfPaths(most, size, count)
	if b.R > api.MaxBall {
		k.stop(api.ErrLarge)
	}
	return b
}

// restOfPaths bounds the paths behind a count, of which the first one is at most first, and each other one at most
// the one before times size (less than One).
func restOfPaths(first, size, count int) int {
	power := api.One
	for range count + 1 {
		power = whole.Upper(power, size, api.One)
	}
	return whole.Upper(first, power, api.One-size)
}
