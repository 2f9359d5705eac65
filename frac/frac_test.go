package frac_test

import (
	"math"
	"math/big"
	"math/rand/v2"
	"testing"

	"etalon/api"
	"etalon/frac"
)

// Fractions in lowest terms have a denominator above 0, and no divisor in common.
func TestLowest(t *testing.T) {
	for _, x := range []struct{ num, den, wantNum, wantDen int }{
		{0, 1, 0, 1}, {0, 7, 0, 1}, {0, -7, 0, 1}, {1, 1, 1, 1}, {6, 4, 3, 2}, {-6, 4, -3, 2}, {6, -4, -3, 2}, {-6, -4, 3, 2},
		{4, 2, 2, 1}, {2, 4, 1, 2}, {7, 7, 1, 1}, {-7, 7, -1, 1}, {5, 3, 5, 3}, {math.MaxInt, math.MaxInt, 1, 1},
	} {
		if got := frac.Lowest(x.num, x.den); got != (api.Frac{Num: x.wantNum, Den: x.wantDen}) {
			t.Errorf("%d / %d: %v", x.num, x.den, got)
		}
	}
}

// Any numbers may be asked whether they are in lowest terms.
func TestIsLowest(t *testing.T) {
	for _, f := range []api.Frac{{Num: 0, Den: 1}, {Num: 3, Den: 2}, {Num: -3, Den: 2}, {Num: 1, Den: math.MaxInt}, {Num: math.MinInt, Den: 1}, {Num: math.MinInt, Den: 3}} {
		if !frac.IsLowest(f) {
			t.Errorf("%v is in lowest terms", f)
		}
	}
	for _, f := range []api.Frac{
		{}, {Num: 1}, {Num: 0, Den: 2}, {Num: 2, Den: 2}, {Num: 2, Den: 4}, {Num: -6, Den: 4}, {Num: 1, Den: -1}, {Num: 3, Den: -2},
		{Num: math.MinInt, Den: 2}, {Num: math.MinInt, Den: math.MinInt}, {Num: 1, Den: math.MinInt}, {Num: math.MaxInt, Den: math.MaxInt},
	} {
		if frac.IsLowest(f) {
			t.Errorf("%v is not in lowest terms", f)
		}
	}
}

// Both numbers of a fraction have a size.
func TestSized(t *testing.T) {
	for f, want := range map[api.Frac]bool{
		{Num: 5, Den: 5}: true, {Num: -5, Den: 1}: true, {Num: 6, Den: 1}: false, {Num: 1, Den: 6}: false, {Num: -6, Den: 1}: false,
		{Num: math.MinInt, Den: 1}: false, {Num: 0, Den: math.MaxInt}: false,
	} {
		if frac.Sized(f, 5) != want {
			t.Errorf("%v: %v", f, !want)
		}
	}
}

// Operations are those of fractions of any size, up to the ends of their bound.
func TestOperations(t *testing.T) {
	r := rand.New(rand.NewPCG(1, 4))
	drawn := func() api.Frac {
		most := int64(1) << (1 + r.IntN(31))
		f := big.NewRat(r.Int64N(2*most-1)-most+1, 1+r.Int64N(max(most-1, 1)))
		return api.Frac{Num: int(f.Num().Int64()), Den: int(f.Denom().Int64())}
	}
	check := func(name string, got api.Frac, want *big.Rat) {
		if int64(got.Num) != want.Num().Int64() || int64(got.Den) != want.Denom().Int64() || !want.Num().IsInt64() || !want.Denom().IsInt64() {
			t.Fatalf("%s: %v; want %v", name, got, want)
		}
	}
	most := api.Frac{Num: math.MaxInt32, Den: math.MaxInt32 - 1}
	least := api.Frac{Num: -math.MaxInt32, Den: math.MaxInt32 - 2}
	for i := range 20000 {
		a, b := drawn(), drawn()
		if i < 4 {
			a, b = [2]api.Frac{most, least}[i&1], [2]api.Frac{most, least}[i/2]
		}
		x, y := big.NewRat(int64(a.Num), int64(a.Den)), big.NewRat(int64(b.Num), int64(b.Den))
		check("sum", frac.Plus(a, b), new(big.Rat).Add(x, y))
		check("difference", frac.Minus(a, b), new(big.Rat).Sub(x, y))
		check("product", frac.Times(a, b), new(big.Rat).Mul(x, y))
		if b.Num != 0 {
			check("quotient", frac.Over(a, b), new(big.Rat).Quo(x, y))
		}
	}
}

// Roots are those of squares alone.
func TestRoot(t *testing.T) {
	for num := range 60 {
		for den := 1; den < 60; den++ {
			f := frac.Lowest(num, den)
			root, ok := frac.Root(frac.Times(f, f))
			if root != f || !ok {
				t.Errorf("the square of %v: %v, %v", f, root, ok)
			}
		}
	}
	for _, f := range []api.Frac{{Num: -1, Den: 1}, {Num: -4, Den: 9}, {Num: 2, Den: 1}, {Num: 1, Den: 2}, {Num: 4, Den: 3}, {Num: 3, Den: 4}, {Num: 2, Den: 9}, {Num: api.MaxPart, Den: 1}} {
		if root, ok := frac.Root(f); ok || root != (api.Frac{}) {
			t.Errorf("%v: %v, %v", f, root, ok)
		}
	}
	if root, ok := frac.Root(api.Frac{Num: 31622 * 31622, Den: 31621 * 31621}); !ok || root != (api.Frac{Num: 31622, Den: 31621}) {
		t.Errorf("a large square: %v, %v", root, ok)
	}
}
