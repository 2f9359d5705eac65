package glass_test

import (
	"math"
	"math/big"
	"math/rand/v2"
	"slices"
	"testing"

	"etalon/api"
	"etalon/ball"
	"etalon/glass"
)

// balls returns exact balls of real numbers.
func balls(numbers ...int) []api.Ball {
	var all []api.Ball
	for _, x := range numbers {
		all = append(all, at(x, 0, 0))
	}
	return all
}

// pulse returns a kernel of n numbers with one that is not 0.
func pulse(n, t, x int) []int {
	kernel := make([]int, n)
	kernel[t] = x
	return kernel
}

// spectrumOf returns the spectrum of a right kernel.
func spectrumOf(t *testing.T, kernel []int) []api.Ball {
	t.Helper()
	spectrum, e := glass.Spectrum(kernel)
	if e != api.OK {
		t.Fatalf("spectrum of %v: %d", kernel, e)
	}
	return spectrum
}

// P2.4: Spectrum.
func TestSpectrum(t *testing.T) {
	flat := func(n, x int) []api.Ball { return slices.Repeat(balls(x), n) }
	for _, x := range []struct {
		name   string
		kernel []int
		want   []api.Ball
		errno  api.Errno
	}{
		{"of two", []int{1, 0}, balls(one, one), api.OK},
		{"of two, late", []int{0, 3}, balls(3*one, -3*one), api.OK},
		{"of four", []int{1, 2, 0, 0}, []api.Ball{at(3*one, 0, 0), at(one, 2*one, 0), at(-one, 0, 0), at(one, -2*one, 0)}, api.OK},
		{"below 0", []int{0, 0, 0, 1}, []api.Ball{at(one, 0, 0), at(0, -one, 0), at(-one, 0, 0), at(0, one, 0)}, api.OK},
		{"nothing", []int{0, 0}, balls(0, 0), api.OK},
		{"of 32", pulse(32, 0, -5), flat(32, -5*one), api.OK},
		{"an eighth of a turn", pulse(8, 1, -2), []api.Ball{
			at(-2*one, 0, 0), at(-1482910, -1482910, 4), at(0, -2*one, 0), at(1482910, -1482910, 4),
			at(2*one, 0, 0), at(1482910, 1482910, 4), at(0, 2*one, 0), at(-1482910, 1482910, 4)}, api.OK},
		{"the greatest", []int{64, 0}, balls(most, most), api.OK},
		{"the least", []int{0, -64}, balls(-most, most), api.OK},
		{"together the greatest", []int{32, 32}, balls(most, 0), api.OK},
		{"beyond", []int{65, 0}, nil, api.ErrLarge},
		{"beyond at first", []int{0, 1000, 0, -1000}, nil, api.ErrLarge},
		{"below the least", []int{0, -1000}, nil, api.ErrLarge},
		{"together beyond", []int{32, 33}, nil, api.ErrLarge},
		{"beyond on the way", []int{60, 60, -60, -60}, nil, api.ErrLarge},
		{"none", nil, nil, api.ErrShape},
		{"one", []int{1}, nil, api.ErrShape},
		{"three", []int{1, 2, 3}, nil, api.ErrShape},
		{"six", make([]int, 6), nil, api.ErrShape},
		{"31", make([]int, 31), nil, api.ErrShape},
		{"33", make([]int, 33), nil, api.ErrShape},
		{"64", make([]int, 64), nil, api.ErrShape},
		{"three ahead of their sizes", []int{1001, 0, 0}, nil, api.ErrShape},
		{"a great number", []int{0, 1001}, nil, api.ErrRange},
		{"a small number", []int{-1001, 0}, nil, api.ErrRange},
		{"a great number ahead of the sums", []int{1000, 1001}, nil, api.ErrRange},
		{"the greatest int", []int{math.MaxInt, 0}, nil, api.ErrRange},
		{"the least int", []int{0, math.MinInt}, nil, api.ErrRange},
	} {
		got, e := glass.Spectrum(x.kernel)
		wantBalls(t, x.name, got, e, x.want, x.errno)
	}
}

// wrongSpectra are spectra that are none.
func wrongSpectra() []struct {
	name     string
	spectrum []api.Ball
	errno    api.Errno
} {
	return []struct {
		name     string
		spectrum []api.Ball
		errno    api.Errno
	}{
		{"none", nil, api.ErrShape},
		{"one", balls(0), api.ErrShape},
		{"three", balls(0, 0, 0), api.ErrShape},
		{"12", make([]api.Ball, 12), api.ErrShape},
		{"33", make([]api.Ball, 33), api.ErrShape},
		{"64", make([]api.Ball, 64), api.ErrShape},
		{"three ahead of wrong ones", []api.Ball{{R: -1}, {}, {}}, api.ErrShape},
		{"half a number", []api.Ball{{}, {Z: 0.5}}, api.ErrWhole},
		{"no number", []api.Ball{{}, {Z: complex(0, math.NaN())}}, api.ErrWhole},
		{"an infinity", []api.Ball{{Z: complex(math.Inf(-1), 0)}, {}}, api.ErrWhole},
		{"a great number", balls(0, most+1), api.ErrRange},
		{"a radius below 0", []api.Ball{{R: -1}, {}}, api.ErrRange},
		{"a great radius", []api.Ball{{R: math.MaxInt}, {}}, api.ErrRange},
		{"one by one", []api.Ball{{R: -1}, {Z: 0.5}}, api.ErrRange},
		{"one by one, turned", []api.Ball{{Z: 0.5}, {R: -1}}, api.ErrWhole},
		{"wrong ahead of large", []api.Ball{at(most, 0, 0), at(most, 0, 0), {}, {Z: 0.5}}, api.ErrWhole},
		{"large", balls(most, 1), api.ErrLarge},
		{"large on the way", balls(most, most, -most, -most), api.ErrLarge},
		{"large by radii", []api.Ball{at(0, 0, most), at(0, 0, 1)}, api.ErrLarge},
		{"large by a product", slices.Concat(balls(0), []api.Ball{at(most, most, most)}, make([]api.Ball, 6)), api.ErrLarge},
	}
}

// P2.4: the errors of a spectrum.
func TestErrorsOfSpectra(t *testing.T) {
	for _, x := range wrongSpectra() {
		kernel, e := glass.Kernel(x.spectrum)
		wantBalls(t, "Kernel of "+x.name, kernel, e, nil, x.errno)
		answer, e := glass.Causal(x.spectrum)
		wantSame(t, "Causal of "+x.name, answer, e, api.AnswerNo, x.errno)
		first, e := glass.FirstAcausal(x.spectrum)
		wantSame(t, "FirstAcausal of "+x.name, first, e, 0, x.errno)
		causal, e := glass.Causalized(x.spectrum)
		wantBalls(t, "Causalized of "+x.name, causal, e, nil, x.errno)
	}
}

// P2.4: Kernel.
func TestKernel(t *testing.T) {
	for _, x := range []struct {
		name     string
		spectrum []api.Ball
		want     []api.Ball
	}{
		{"the example", []api.Ball{at(3*one, 0, 0), at(one, 2*one, 0), at(-one, 0, 0), at(one, -2*one, 0)}, balls(one, 2*one, 0, 0)},
		{"of two", balls(5, 3), balls(4, 1)},
		{"halves up", balls(4, 1), []api.Ball{at(3, 0, 1), at(2, 0, 1)}},
		{"halves up, below 0", balls(1, 4), []api.Ball{at(3, 0, 1), at(-1, 0, 1)}},
		{"halves up, imaginary", []api.Ball{at(0, -3, 0), {}}, []api.Ball{at(0, -1, 1), at(0, -1, 1)}},
		{"radii up", []api.Ball{at(2, 0, 2), at(0, 0, 1)}, []api.Ball{at(1, 0, 2), at(1, 0, 2)}},
		{"a whole radius", []api.Ball{at(1, 0, 1), at(0, 0, 1)}, []api.Ball{at(1, 0, 2), at(1, 0, 2)}},
		{"the greatest", balls(most, 0), balls(most/2, most/2)},
		{"the greatest radius", []api.Ball{at(0, 0, most), {}}, []api.Ball{at(0, 0, most/2), at(0, 0, most/2)}},
		{"turned by quarters", []api.Ball{{}, at(4, 0, 0), {}, {}}, []api.Ball{at(1, 0, 0), at(0, -1, 0), at(-1, 0, 0), at(0, 1, 0)}},
		{"nothing", make([]api.Ball, 32), make([]api.Ball, 32)},
		{"-0", []api.Ball{{Z: complex(minusZero, minusZero)}, {Z: complex(0, minusZero)}}, balls(0, 0)},
	} {
		got, e := glass.Kernel(x.spectrum)
		wantBalls(t, x.name, got, e, x.want, api.OK)
	}
}

// P2.4: Causal and FirstAcausal.
func TestCausal(t *testing.T) {
	wide := func(l []api.Ball, r int) []api.Ball {
		l = slices.Clone(l)
		l[0].R = r
		return l
	}
	for _, x := range []struct {
		name     string
		spectrum []api.Ball
		answer   int
		first    int
		errno    api.Errno
	}{
		{"the example", spectrumOf(t, []int{1, 2, 0, 0}), api.AnswerYes, 0, api.ErrNone},
		{"at a time below 0", spectrumOf(t, []int{0, 0, 0, 1}), api.AnswerNo, 3, api.OK},
		{"at half", spectrumOf(t, []int{1, 2, 3, 0}), api.AnswerYes, 0, api.ErrNone},
		{"of two", balls(most, 0), api.AnswerYes, 0, api.ErrNone},
		{"of two, wide", []api.Ball{at(5, 7, 9), at(1, 2, most-9)}, api.AnswerYes, 0, api.ErrNone},
		{"wide", wide(spectrumOf(t, []int{1, 2, 0, 0}), 1), api.AnswerMaybe, 0, api.ErrNone},
		{"wide enough", wide(balls(2, 0, 0, 0), 1), api.AnswerMaybe, 0, api.ErrNone},
		{"just wide enough", []api.Ball{at(4, 0, 4), {}, {}, {}}, api.AnswerMaybe, 0, api.ErrNone},
		{"not wide enough", []api.Ball{at(8, 0, 4), {}, {}, {}}, api.AnswerNo, 3, api.OK},
		{"of eight, at the first time below", spectrumOf(t, pulse(8, 5, 1)), api.AnswerNo, 5, api.OK},
		{"of eight, at the last time", spectrumOf(t, pulse(8, 7, -1)), api.AnswerNo, 7, api.OK},
		{"of eight, at half", spectrumOf(t, pulse(8, 4, 7)), api.AnswerMaybe, 0, api.ErrNone},
		{"of eight, before half", spectrumOf(t, pulse(8, 3, 7)), api.AnswerMaybe, 0, api.ErrNone},
		{"of eight, flat", spectrumOf(t, pulse(8, 0, 7)), api.AnswerMaybe, 0, api.ErrNone},
		{"of 32, the first of many", spectrumOf(t, append(make([]int, 29), 1, 1, 1)), api.AnswerNo, 29, api.OK},
		{"of 32, at the first time below", spectrumOf(t, pulse(32, 17, 1)), api.AnswerNo, 17, api.OK},
		{"of 32, at half", spectrumOf(t, pulse(32, 16, 1)), api.AnswerMaybe, 0, api.ErrNone},
		{"of 32, nothing", make([]api.Ball, 32), api.AnswerYes, 0, api.ErrNone},
	} {
		answer, e := glass.Causal(x.spectrum)
		wantSame(t, "Causal: "+x.name, answer, e, x.answer, api.OK)
		first, e := glass.FirstAcausal(x.spectrum)
		wantSame(t, "FirstAcausal: "+x.name, first, e, x.first, x.errno)
	}
}

// P2.4: Causalized.
func TestCausalized(t *testing.T) {
	for _, x := range []struct {
		name string
		// of this kernel, in parts of One, and with this one as the result
		from, to []int
	}{
		{"a causal one", []int{1, 2, 3, 0}, []int{1, 2, 3, 0}},
		{"an acausal one", []int{1, 2, 3, 4}, []int{1, -2, 3, 0}},
		{"of two", []int{5, 6}, []int{5, 6}},
		{"nothing", []int{0, 0}, []int{0, 0}},
	} {
		got, e := glass.Causalized(spectrumOf(t, x.from))
		wantBalls(t, x.name, got, e, spectrumOf(t, x.to), api.OK)
	}
	wide := []api.Ball{at(0, 0, 4), at(0, 0, 8), {}, {}}
	// The kernel has the radius 3 everywhere; that at 1 gets the one at 3, which itself becomes 0.
	want := slices.Repeat([]api.Ball{at(0, 0, 3+6+3)}, 4)
	got, e := glass.Causalized(wide)
	wantBalls(t, "radii", got, e, want, api.OK)
	// Each kernel number has a quarter of MaxBall as its radius, and together they have all of it.
	got, e = glass.Causalized([]api.Ball{{}, at(most, 0, most), {}, {}})
	wantBalls(t, "radii to MaxBall", got, e, []api.Ball{at(0, -most/2, most), at(most, 0, most), at(0, most/2, most), at(0, 0, most)}, api.OK)
	// Here each one has 1 more, being rounded.
	kernel, e := glass.Kernel([]api.Ball{at(1, 0, most), {}, {}, {}})
	wantBalls(t, "the kernel of a ball that is rounded", kernel, e, slices.Repeat([]api.Ball{at(0, 0, most/4+1)}, 4), api.OK)
	got, e = glass.Causalized([]api.Ball{at(1, 0, most), {}, {}, {}})
	wantBalls(t, "radii beyond MaxBall", got, e, nil, api.ErrLarge)
}

// reference is a ball of whole numbers of any size.
type reference struct{ x, y, r *big.Rat }

func referenceOf(b api.Ball) reference {
	return reference{frac(int(real(b.Z))), frac(int(imag(b.Z))), frac(b.R)}
}

func (a reference) plus(b reference) reference {
	return reference{sum(a.x, b.x), sum(a.y, b.y), sum(a.r, b.r)}
}

// result returns the ball, and whether it is one.
func (a reference) result() (api.Ball, bool) {
	b := at(floor(a.x), floor(a.y), floor(a.r))
	return b, ball.CheckBall(b) == api.OK
}

// divided rounds the centre of a ball that is divided by n.
func (a reference) divided(n int) reference {
	x, y := over(a.x, frac(n)), over(a.y, frac(n))
	b := reference{frac(nearest(x)), frac(nearest(y)), frac(ceil(over(a.r, frac(n))))}
	if !x.IsInt() || !y.IsInt() {
		b.r = sum(b.r, frac(1))
	}
	return b
}

// times is the product, as the first chapter tells it.
func (a reference) times(b reference) reference {
	square := func(a reference) *big.Rat { return sum(product(a.x, a.x), product(a.y, a.y)) }
	x := less(product(a.x, b.x), product(a.y, b.y))
	y := sum(product(a.x, b.y), product(a.y, b.x))
	r := sum(sum(product(frac(rootOf(square(a)).Hi), b.r), product(frac(rootOf(square(b)).Hi), a.r)), product(a.r, b.r))
	return reference{x, y, r}.divided(one)
}

// referenceSums adds up terms from the ball 0 on; it has nothing if a ball on the way is none.
func referenceSums(n int, term func(i, j int) reference) []reference {
	var all []reference
	for i := range n {
		total := referenceOf(api.Ball{})
		for j := range n {
			x := term(i, j)
			_, ok := x.result()
			total = total.plus(x)
			if _, right := total.result(); !ok || !right {
				return nil
			}
		}
		all = append(all, total)
	}
	return all
}

// unit is the unit number of m t / n turns.
func unit(m, t, n int) reference {
	b, _ := ball.Unit(m*t, n)
	return referenceOf(b)
}

// results returns the balls, and the error if there are none.
func results(l []reference) ([]api.Ball, api.Errno) {
	if l == nil {
		return nil, api.ErrLarge
	}
	var all []api.Ball
	for _, x := range l {
		b, _ := x.result()
		all = append(all, b)
	}
	return all, api.OK
}

func referenceSpectrum(kernel []int) ([]api.Ball, api.Errno) {
	n := len(kernel)
	return results(referenceSums(n, func(m, t int) reference {
		u, k := unit(m, t, n), frac(kernel[t])
		return reference{product(u.x, k), product(u.y, k), product(u.r, new(big.Rat).Abs(k))}
	}))
}

func referenceKernel(spectrum []api.Ball) []reference {
	n := len(spectrum)
	kernel := referenceSums(n, func(t, m int) reference { return referenceOf(spectrum[m]).times(unit(-m, t, n)) })
	for t, x := range kernel {
		kernel[t] = x.divided(n)
	}
	return kernel
}

func referenceCausalized(kernel []reference) ([]api.Ball, api.Errno) {
	n := len(kernel)
	causal := slices.Clone(kernel)
	for t := 1; t < n/2; t++ {
		a, b := kernel[t], kernel[n-t]
		causal[t] = reference{less(a.x, b.x), less(a.y, b.y), sum(a.r, b.r)}
		causal[n-t] = referenceOf(api.Ball{})
		if _, ok := causal[t].result(); !ok {
			return nil, api.ErrLarge
		}
	}
	return results(referenceSums(n, func(m, t int) reference { return unit(m, t, n).times(causal[t]) }))
}

// drawnKernel returns a kernel of small or of great numbers.
func drawnKernel(r *rand.Rand) []int {
	kernel := make([]int, 2<<r.IntN(5))
	size := 1 << r.IntN(8)
	for t := range kernel {
		kernel[t] = drawnBetween(r, -size, size)
	}
	return kernel
}

// drawnSpectrum returns balls of any size.
func drawnSpectrum(r *rand.Rand) []api.Ball {
	spectrum := make([]api.Ball, 2<<r.IntN(5))
	size, width := 1<<r.IntN(27), 1<<r.IntN(24)
	for m := range spectrum {
		spectrum[m] = at(drawnBetween(r, -size, size), drawnBetween(r, -size, size), r.IntN(3)%2*r.IntN(width))
	}
	return spectrum
}

// P2.4: each result is the one that the definitions tell, to the last part.
func TestExactResponses(t *testing.T) {
	r := draws(20)
	seen := map[string]int{}
	for range 400 {
		kernel := drawnKernel(r)
		want, errno := referenceSpectrum(kernel)
		spectrum, e := glass.Spectrum(kernel)
		wantBalls(t, "Spectrum", spectrum, e, want, errno)
		if e != api.OK || r.IntN(2) == 0 {
			spectrum = drawnSpectrum(r)
		}
		again := referenceKernel(spectrum)
		want, errno = results(again)
		got, e := glass.Kernel(spectrum)
		wantBalls(t, "Kernel", got, e, want, errno)
		if e != api.OK {
			seen["no kernel"]++
			continue
		}
		want, errno = referenceCausalized(again)
		got, e = glass.Causalized(spectrum)
		wantBalls(t, "Causalized", got, e, want, errno)
		seen["a kernel"]++
		if t.Failed() {
			t.Fatalf("of %v, %v", kernel, spectrum)
		}
	}
	if seen["no kernel"] < 20 || seen["a kernel"] < 100 {
		t.Errorf("too few: %v", seen)
	}
}

// smallKernel returns a kernel so small that all balls that are found from it are ones: of 32 numbers the sums for
// the kernel of a causal spectrum could be too large.
func smallKernel(r *rand.Rand) []int {
	kernel := make([]int, 2<<r.IntN(4))
	for t := range kernel {
		kernel[t] = drawnBetween(r, -1, 1)
	}
	return kernel
}

// P2.8: spectra of kernels without numbers below 0 are never told to be acausal, those of others are: at the first one.
func TestCausality(t *testing.T) {
	r := draws(21)
	for range 300 {
		kernel := smallKernel(r)
		n := len(kernel)
		spectrum := spectrumOf(t, kernel)
		again, e := glass.Kernel(spectrum)
		if e != api.OK {
			t.Fatalf("kernel of %v: %d", spectrum, e)
		}
		first := 0
		for i, x := range kernel {
			if has, _ := ball.Contains(again[i], complex(float64(x*one), 0)); !has {
				t.Fatalf("%d of %v: %v", i, kernel, again)
			}
			if i > n/2 && x != 0 && first == 0 {
				first = i
			}
		}
		if first > 0 {
			answer, e := glass.Causal(spectrum)
			wantSame(t, "acausal", answer, e, api.AnswerNo, api.OK)
			got, e := glass.FirstAcausal(spectrum)
			wantSame(t, "the first one", got, e, first, api.OK)
		}
		clear(kernel[n/2+1:])
		spectrum = spectrumOf(t, kernel)
		if answer, e := glass.Causal(spectrum); answer == api.AnswerNo || e != api.OK {
			t.Fatalf("%v: %d, %d", kernel, answer, e)
		}
		got, e := glass.FirstAcausal(spectrum)
		wantSame(t, "none", got, e, 0, api.ErrNone)
	}
}

// P2.8: the causal spectrum of a causal one meets it; a causal spectrum is never told to be acausal.
func TestCausalizedIsCausal(t *testing.T) {
	r := draws(22)
	for range 300 {
		kernel := smallKernel(r)
		causal, e := glass.Causalized(spectrumOf(t, kernel))
		if e != api.OK {
			t.Fatalf("of %v: %d", kernel, e)
		}
		if answer, e := glass.Causal(causal); answer == api.AnswerNo || e != api.OK {
			t.Fatalf("of %v: %d, %d", kernel, answer, e)
		}
		clear(kernel[len(kernel)/2+1:])
		spectrum := spectrumOf(t, kernel)
		causal, e = glass.Causalized(spectrum)
		if e != api.OK {
			t.Fatalf("of %v: %d", kernel, e)
		}
		for m, b := range causal {
			if meets, _ := ball.Meets(b, spectrum[m]); !meets {
				t.Fatalf("of %v: %v does not meet %v", kernel, b, spectrum[m])
			}
		}
	}
}
