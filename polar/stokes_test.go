package polar_test

import (
	"math"
	"math/big"
	"testing"

	"etalon/api"
	"etalon/polar"
)

const most = api.MaxStokes

// wrongStokes returns Stokes vectors that are refused, with their errors.
func wrongStokes() map[api.Stokes]api.Errno {
	l := map[api.Stokes]api.Errno{
		{-1, 0, 0, 0}: api.ErrBreak, {-5, 3, 4, 0}: api.ErrBreak, {-most, most, 0, 0}: api.ErrBreak, {0, 0, 0, 1}: api.ErrBreak, {0, -1, 0, 0}: api.ErrBreak,
		{5, 3, 4, 1}: api.ErrBreak, {5, 0, 0, -6}: api.ErrBreak, {most, most, 1, 0}: api.ErrBreak, {most, 0, -1, -most}: api.ErrBreak,
		{most, most, most, most}: api.ErrBreak, {1, most, -most, most}: api.ErrBreak, {most - 1, 0, most, 0}: api.ErrBreak,
		// The squares of these wrap around.
		{1, 1 << 32, 0, 0}: api.ErrRange, {5, 5, math.MinInt, 0}: api.ErrRange,
		{-1, 0, 0, most + 1}: api.ErrRange, {-most - 1, 0, 0, 0}: api.ErrRange,
	}
	for i := range 4 {
		for _, n := range []int{most + 1, -most - 1, math.MaxInt, math.MinInt, math.MinInt + 1} {
			s := api.Stokes{most, 0, 0, 0}
			s[i] = n
			l[s] = api.ErrRange
		}
	}
	return l
}

// P5.3: CheckStokes.
func TestCheckStokes(t *testing.T) {
	for _, s := range []api.Stokes{
		{}, {1, 0, 0, 0}, {1, 1, 0, 0}, {1, 0, -1, 0}, {5, 3, 0, -4}, {5, 3, 4, 0}, {3, -2, 2, -1}, {most, most, 0, 0}, {most, 0, 0, -most},
		{most, 600000000, 0, 800000000}, {most, most - 1, 44721, 0}, {most, 0, 0, 0},
	} {
		wantError(t, "a right vector", polar.CheckStokes(s), api.OK)
	}
	for s, errno := range wrongStokes() {
		if e := polar.CheckStokes(s); e != errno {
			t.Errorf("%v: %d; want %d", s, e, errno)
		}
		f, e := polar.Degree(s)
		wantSame(t, "degree of a wrong vector", f, e, api.Frac{}, errno)
	}
	r := draws(10)
	for range 20000 {
		var s api.Stokes
		for i := range s {
			s[i] = drawn(r, drawnSize(r, most))
		}
		want := api.OK
		if s[0] < 0 || sumOfSquares(s[:1]).Cmp(sumOfSquares(s[1:])) < 0 {
			want = api.ErrBreak
		}
		if e := polar.CheckStokes(s); e != want {
			t.Errorf("%v: %d; want %d", s, e, want)
		}
	}
}

// sumOfSquares returns the sum of the squares of numbers, of any size.
func sumOfSquares(l []int) *big.Int {
	sum := new(big.Int)
	for _, n := range l {
		x := big.NewInt(int64(n))
		sum.Add(sum, x.Mul(x, x))
	}
	return sum
}

// bookFrac returns a fraction in lowest terms, or ErrLarge.
func bookFrac(num, den *big.Int) (api.Frac, api.Errno) {
	f, bound := new(big.Rat).SetFrac(num, den), big.NewInt(api.MaxPart)
	if f.Num().CmpAbs(bound) > 0 || f.Denom().Cmp(bound) > 0 {
		return api.Frac{}, api.ErrLarge
	}
	return api.Frac{Num: int(f.Num().Int64()), Den: int(f.Denom().Int64())}, api.OK
}

// P5.3: Degree.
func TestDegree(t *testing.T) {
	for _, x := range []struct {
		s     api.Stokes
		want  api.Frac
		errno api.Errno
	}{
		{api.Stokes{5, 3, 0, 0}, api.Frac{Num: 9, Den: 25}, api.OK},
		{api.Stokes{5, 3, 0, -4}, api.Frac{Num: 1, Den: 1}, api.OK},
		{api.Stokes{5, 0, 0, 0}, api.Frac{Num: 0, Den: 1}, api.OK},
		{api.Stokes{4, 2, 2, 2}, api.Frac{Num: 3, Den: 4}, api.OK},
		{api.Stokes{most, most, 0, 0}, api.Frac{Num: 1, Den: 1}, api.OK},
		{api.Stokes{most, 0, 0, 0}, api.Frac{Num: 0, Den: 1}, api.OK},
		{api.Stokes{most, most / 2, 0, 0}, api.Frac{Num: 1, Den: 4}, api.OK},
		{api.Stokes{}, api.Frac{}, api.ErrZero},
		{api.Stokes{31622, 1, 0, 0}, api.Frac{Num: 1, Den: 31622 * 31622}, api.OK},
		{api.Stokes{31623, 1, 0, 0}, api.Frac{}, api.ErrLarge},
		{api.Stokes{most, 1, 0, 0}, api.Frac{}, api.ErrLarge},
		{api.Stokes{most, most - 1, 0, 0}, api.Frac{}, api.ErrLarge},
	} {
		got, e := polar.Degree(x.s)
		wantSame(t, "degree", got, e, x.want, x.errno)
	}
	r, large := draws(11), 0
	for range 20000 {
		size := drawnSize(r, most/2-1)
		s := api.Stokes{2*size + 1, drawn(r, size), drawn(r, size), drawn(r, size)}
		want, errno := bookFrac(sumOfSquares(s[1:]), sumOfSquares(s[:1]))
		got, e := polar.Degree(s)
		wantSame(t, "degree", got, e, want, errno)
		if errno == api.ErrLarge {
			large++
		}
	}
	if large < 2000 || large > 18000 {
		t.Errorf("%d degrees are not small", large)
	}
}
