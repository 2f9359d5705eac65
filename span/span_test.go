package span_test

import (
	"math"
	"math/big"
	"math/rand/v2"
	"testing"

	"etalon/api"
	"etalon/span"
)

func of(lo, hi int) api.Range { return api.Range{Lo: lo, Hi: hi} }

// Both ends are looked at ahead of their order.
func TestCheck(t *testing.T) {
	for r, want := range map[api.Range]api.Errno{
		of(0, 0): api.OK, of(-5, 5): api.OK, of(5, 5): api.OK, of(-5, -5): api.OK, of(-5, -4): api.OK,
		of(-6, 5): api.ErrRange, of(-5, 6): api.ErrRange, of(6, 7): api.ErrRange, of(-7, -6): api.ErrRange,
		of(math.MinInt, math.MaxInt): api.ErrRange, of(math.MaxInt, math.MinInt): api.ErrRange, of(0, math.MinInt): api.ErrRange,
		of(6, 5): api.ErrRange, of(-5, -6): api.ErrRange, of(1, 0): api.ErrOrder, of(5, -5): api.ErrOrder, of(-4, -5): api.ErrOrder,
	} {
		if e := span.Check(r, -5, 5); e != want {
			t.Errorf("%v: %d; want %d", r, e, want)
		}
	}
	for r, want := range map[api.Range]api.Errno{
		of(3, 3): api.OK, of(3, 9): api.OK, of(9, 9): api.OK, of(4, 8): api.OK, of(4, 3): api.ErrOrder, of(9, 3): api.ErrOrder,
		of(2, 9): api.ErrRange, of(3, 10): api.ErrRange, of(3, 2): api.ErrRange, of(10, 9): api.ErrRange, of(0, 1): api.ErrRange,
	} {
		if e := span.Check(r, 3, 9); e != want {
			t.Errorf("%v from 3 to 9: %d; want %d", r, e, want)
		}
	}
}

// Both ends are looked at, whichever is the greater one.
func TestWithin(t *testing.T) {
	for _, r := range []api.Range{of(3, 9), of(9, 3), of(3, 3), of(9, 9), of(5, 6), of(6, 5)} {
		if !span.Within(r, 3, 9) {
			t.Errorf("%v is from 3 to 9", r)
		}
	}
	for _, r := range []api.Range{of(2, 9), of(9, 2), of(3, 10), of(10, 3), of(0, 1), of(-9, -3), of(math.MinInt, 5), of(5, math.MaxInt)} {
		if span.Within(r, 3, 9) {
			t.Errorf("%v is not from 3 to 9", r)
		}
	}
}

// Quotients are rounded down and up, also by numbers below 0.
func TestQuotient(t *testing.T) {
	for _, x := range []struct {
		x, d int
		want api.Range
	}{
		{0, 3, of(0, 0)}, {0, -3, of(0, 0)}, {6, 3, of(2, 2)}, {-6, 3, of(-2, -2)}, {6, -3, of(-2, -2)}, {-6, -3, of(2, 2)},
		{7, 3, of(2, 3)}, {-7, 3, of(-3, -2)}, {7, -3, of(-3, -2)}, {-7, -3, of(2, 3)}, {1, 2, of(0, 1)}, {1, -2, of(-1, 0)},
	} {
		if got := span.Quotient(x.x, x.d); got != x.want {
			t.Errorf("%d / %d: %v; want %v", x.x, x.d, got, x.want)
		}
	}
	r := rand.New(rand.NewPCG(1, 6))
	for range 20000 {
		x, d := r.IntN(1<<62)>>r.IntN(62), 1+r.IntN(1<<61)>>r.IntN(61)
		if r.IntN(2) == 0 {
			x = -x
		}
		if r.IntN(2) == 0 {
			d = -d
		}
		down, rest := new(big.Int).DivMod(big.NewInt(int64(x)), big.NewInt(int64(d)), new(big.Int))
		if d < 0 && rest.Sign() != 0 {
			// DivMod leaves what is not below 0: by a number below 0 it rounds up.
			down.Sub(down, big.NewInt(1))
		}
		up := new(big.Int).Set(down)
		if rest.Sign() != 0 {
			up.Add(up, big.NewInt(1))
		}
		if got := span.Quotient(x, d); got != of(int(down.Int64()), int(up.Int64())) {
			t.Errorf("%d / %d: %v; want %v to %v", x, d, got, down, up)
		}
	}
}

// A hull has all ranges; what they have in common may be a single number, or none.
func TestHullAndCommon(t *testing.T) {
	for _, x := range []struct {
		first  api.Range
		others []api.Range
		hull   api.Range
		common api.Range
		there  bool
	}{
		{of(1, 4), nil, of(1, 4), of(1, 4), true},
		{of(1, 4), []api.Range{of(2, 3)}, of(1, 4), of(2, 3), true},
		{of(2, 3), []api.Range{of(1, 4)}, of(1, 4), of(2, 3), true},
		{of(-1, 4), []api.Range{of(4, 6)}, of(-1, 6), of(4, 4), true},
		{of(5, 6), []api.Range{of(1, 4)}, of(1, 6), of(0, 0), false},
		{of(-9, -5), []api.Range{of(-4, 4)}, of(-9, 4), of(0, 0), false},
		{of(0, 9), []api.Range{of(2, 8), of(-5, 3), of(3, 20)}, of(-5, 20), of(3, 3), true},
		{of(0, 9), []api.Range{of(0, 1), of(2, 3), of(0, 9)}, of(0, 9), of(0, 0), false},
		{of(math.MinInt, 0), []api.Range{of(0, math.MaxInt)}, of(math.MinInt, math.MaxInt), of(0, 0), true},
	} {
		if hull := span.Hull(x.first, x.others...); hull != x.hull {
			t.Errorf("hull of %v and %v: %v", x.first, x.others, hull)
		}
		if common, there := span.Common(x.first, x.others...); common != x.common || there != x.there {
			t.Errorf("common to %v and %v: %v, %v", x.first, x.others, common, there)
		}
	}
}

// What is least or greatest may stand at any two ends, and each end is asked.
func TestAtEnds(t *testing.T) {
	for _, x := range []struct {
		a, b, want api.Range
	}{
		{of(6, 7), of(2, 3), of(2, 4)},
		{of(-7, -6), of(2, 3), of(-4, -2)},
		{of(-7, 7), of(2, 3), of(-4, 4)},
		{of(-7, 1), of(2, 3), of(-4, 1)},
		{of(-1, 7), of(2, 3), of(-1, 4)},
		{of(6, 7), of(-3, -2), of(-4, -2)},
		{of(6, 6), of(3, 3), of(2, 2)},
		{of(7, 7), of(3, 3), of(2, 3)},
		{of(0, 0), of(1, 9), of(0, 0)},
	} {
		if got := span.AtEnds(x.a, x.b, span.Quotient); got != x.want {
			t.Errorf("%v by %v: %v; want %v", x.a, x.b, got, x.want)
		}
	}
	// Of a function that is great at one pair of ends alone, whichever it is.
	for i, pair := range [4][2]int{{1, 5}, {1, 7}, {3, 5}, {3, 7}} {
		got := span.AtEnds(of(1, 3), of(5, 7), func(x, y int) api.Range {
			if [2]int{x, y} == pair {
				return of(-i-1, i+2)
			}
			return of(0, 1)
		})
		if got != of(-i-1, i+2) {
			t.Errorf("at %v: %v", pair, got)
		}
	}
}
