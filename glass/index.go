package glass

import (
	"etalon/api"
	"etalon/ball"
	"etalon/frac"
	"etalon/span"
	"etalon/whole"
)

// The wavelengths that Abbe compares: the yellow line of helium, and the blue and the red one of hydrogen.
const (
	yellow = 5876
	blue   = 4861
	red    = 6563
)

// At returns index and loss at a wavelength.
func At(g api.Glass, wave int) ([2]int, api.Errno) {
	m, e := materialAt(g, wave)
	if e != api.OK {
		return [2]int{}, e
	}
	var both [2]int
	for i, x := range m.told(wave) {
		both[i] = x.nearest()
	}
	return both, api.OK
}

// Between returns the enclosures of index and loss for all wavelengths of a range.
func Between(g api.Glass, waves api.Range) ([2]api.Range, api.Errno) {
	m, e := rightMaterial(g)
	if e == api.OK {
		e = checkWaves(m, waves)
	}
	if e != api.OK {
		return [2]api.Range{}, e
	}
	var both [2]api.Range
	for i, x := range m.told(waves.Lo) {
		both[i] = x.span()
	}
	widen := func(wave int) {
		for i, x := range m.told(wave) {
			both[i] = span.Hull(both[i], x.span())
		}
	}
	widen(waves.Hi)
	for _, wave := range m.bends() {
		if whole.Within(wave, waves.Lo, waves.Hi) {
			widen(wave)
		}
	}
	return both, api.OK
}

// checkWaves checks a range of wavelengths of a material.
func checkWaves(m material, waves api.Range) api.Errno {
	if e := span.Check(waves, api.LeastWave, api.MaxWave); e != api.OK {
		return e
	}
	if !m.covers(waves.Lo) || !m.covers(waves.Hi) {
		return api.ErrNone
	}
	return api.OK
}

// Permittivity returns the ball of the square of the complex index.
func Permittivity(g api.Glass, wave int) (api.Ball, api.Errno) {
	both, e := At(g, wave)
	if e != api.OK {
		return api.Ball{}, e
	}
	index, loss := both[0], both[1]
	const scale = api.IndexOne * api.IndexOne
	x, xSame := whole.Nearest(index*index-loss*loss, api.One, scale)
	y, ySame := whole.Nearest(2*index*loss, api.One, scale)
	b := api.Ball{Z: whole.Complex(x, y)}
	if !xSame || !ySame {
		b.R = 1
	}
	return largeUnlessBall(b)
}

// largeUnlessBall returns a result if it is a ball.
func largeUnlessBall(b api.Ball) (api.Ball, api.Errno) {
	if ball.CheckBall(b) != api.OK {
		return api.Ball{}, api.ErrLarge
	}
	return b, api.OK
}

// GroupIndex returns the group index at a wavelength, rounded down, and rounded up.
func GroupIndex(g api.Glass, wave int) (api.Range, api.Errno) {
	m, e := materialAt(g, wave)
	if e != api.OK {
		return api.Range{}, e
	}
	x, e := m.group(wave)
	if e != api.OK {
		return api.Range{}, e
	}
	return x.span(), api.OK
}

// Abbe returns how much the index is above 1, by how much it falls from blue to red.
func Abbe(g api.Glass) (api.Frac, api.Errno) {
	var index [3]int
	for i, wave := range [3]int{yellow, blue, red} {
		both, e := At(g, wave)
		if e != api.OK {
			return api.Frac{}, e
		}
		index[i] = both[0]
	}
	if index[1] == index[2] {
		return api.Frac{}, api.ErrZero
	}
	return frac.Lowest(index[0]-api.IndexOne, index[1]-index[2]), api.OK
}
