package glass

import (
	"iter"
	"math/bits"

	"etalon/api"
	"etalon/ball"
	"etalon/whole"
)

// Spectrum returns the spectrum of a kernel.
func Spectrum(kernel []int) ([]api.Ball, api.Errno) {
	n := len(kernel)
	if e := checkCount(n); e != api.OK {
		return nil, e
	}
	for _, x := range kernel {
		if !whole.Sized(x, api.MaxKernel) {
			return nil, api.ErrRange
		}
	}
	return sums(n, func(m, t int) (api.Ball, api.Errno) {
		unit, e := ball.Unit(m*t, n)
		if e != api.OK {
			return api.Ball{}, e
		}
		return multiple(unit, kernel[t])
	})
}

// Kernel returns the kernel of a spectrum.
func Kernel(spectrum []api.Ball) ([]api.Ball, api.Errno) {
	n := len(spectrum)
	if e := checkCount(n); e != api.OK {
		return nil, e
	}
	for _, b := range spectrum {
		if e := ball.CheckBall(b); e != api.OK {
			return nil, e
		}
	}
	kernel, e := turnedSums(spectrum, -1)
	if e != api.OK {
		return nil, e
	}
	for t, b := range kernel {
		kernel[t] = part(b, n)
	}
	return kernel, api.OK
}

// Causal returns whether a spectrum is causal.
func Causal(spectrum []api.Ball) (int, api.Errno) {
	kernel, e := Kernel(spectrum)
	if e != api.OK {
		return 0, e
	}
	answer := api.AnswerYes
	for t := range timesBelow(len(kernel)) {
		if !has0(kernel[t]) {
			return api.AnswerNo, api.OK
		}
		if kernel[t] != (api.Ball{}) {
			answer = api.AnswerMaybe
		}
	}
	return answer, api.OK
}

// FirstAcausal returns the first number of a time below 0 at which the kernel of a spectrum surely is not 0.
func FirstAcausal(spectrum []api.Ball) (int, api.Errno) {
	kernel, e := Kernel(spectrum)
	if e != api.OK {
		return 0, e
	}
	for t := range timesBelow(len(kernel)) {
		if !has0(kernel[t]) {
			return t, api.OK
		}
	}
	return 0, api.ErrNone
}

// Causalized returns the causal spectrum of a spectrum.
func Causalized(spectrum []api.Ball) ([]api.Ball, api.Errno) {
	kernel, e := Kernel(spectrum)
	if e != api.OK {
		return nil, e
	}
	n := len(kernel)
	for t := range timesBelow(n) {
		if kernel[n-t], e = ball.Minus(kernel[n-t], kernel[t]); e != api.OK {
			return nil, e
		}
		kernel[t] = api.Ball{}
	}
	return turnedSums(kernel, 1)
}

// timesBelow yields the numbers that stand for times below 0, of n ones: half of all is neither above nor below.
func timesBelow(n int) iter.Seq[int] {
	return func(yield func(int) bool) {
		for t := n/2 + 1; t < n; t++ {
			if !yield(t) {
				return
			}
		}
	}
}

// checkCount checks how many numbers a response has: a power of two has one bit.
func checkCount(n int) api.Errno {
	if !whole.Within(n, 2, api.MaxResponse) || bits.OnesCount(uint(n)) != 1 {
		return api.ErrShape
	}
	return api.OK
}

// sums returns n balls: that of the number i is the sum of the terms (i, 0), (i, 1) and so on to (i, n - 1).
func sums(n int, term func(i, j int) (api.Ball, api.Errno)) ([]api.Ball, api.Errno) {
	all := make([]api.Ball, n)
	for i := range all {
		for j := range n {
			x, e := term(i, j)
			if e != api.OK {
				return nil, e
			}
			if all[i], e = ball.Plus(all[i], x); e != api.OK {
				return nil, e
			}
		}
	}
	return all, api.OK
}

// turnedSums returns n sums of n balls: in that of the number i the ball j is turned by i j / n turns, forwards or backwards.
func turnedSums(balls []api.Ball, forwards int) ([]api.Ball, api.Errno) {
	n := len(balls)
	return sums(n, func(i, j int) (api.Ball, api.Errno) {
		unit, e := ball.Unit(forwards*i*j, n)
		if e != api.OK {
			return api.Ball{}, e
		}
		return ball.Times(balls[j], unit)
	})
}

// multiple returns a ball times a whole number, which is not rounded as by ball.Times.
func multiple(b api.Ball, many int) (api.Ball, api.Errno) {
	return largeUnlessBall(api.Ball{Z: b.Z * complex(float64(many), 0), R: b.R * max(many, -many)})
}

// part returns a ball divided by n.
func part(b api.Ball, n int) api.Ball {
	parts := whole.Parts(b.Z)
	x, xSame := whole.Nearest(parts[0], 1, n)
	y, ySame := whole.Nearest(parts[1], 1, n)
	radius := whole.Upper(b.R, 1, n)
	if !xSame || !ySame {
		radius++
	}
	return api.Ball{Z: whole.Complex(x, y), R: radius}
}

// has0 says whether a ball has the number 0.
func has0(b api.Ball) bool {
	has, _ := ball.Contains(b, 0)
	return has
}
