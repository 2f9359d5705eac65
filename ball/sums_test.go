package ball_test

import (
	"math"
	"testing"

	"etalon/api"
	"etalon/ball"
)

// pair is two balls, and what an operation is to make of them.
type pair struct {
	name       string
	a, b, want api.Ball
	errno      api.Errno
}

func wantPairs(t *testing.T, call func(a, b api.Ball) (api.Ball, api.Errno), pairs []pair) {
	t.Helper()
	for _, x := range pairs {
		b, e := call(x.a, x.b)
		wantBall(t, x.name, b, e, x.want, x.errno)
	}
}

// P1.2: Plus.
func TestPlus(t *testing.T) {
	wantPairs(t, ball.Plus, []pair{
		{"a sum", at(1, 2, 3), at(10, -2, 4), at(11, 0, 7), api.OK},
		{"up to MaxBall", at(most-1, 1-most, most-2), at(1, -1, 2), at(most, -most, most), api.OK},
		{"real beyond", at(most, 0, 0), at(1, 0, 0), api.Ball{}, api.ErrLarge},
		{"real beyond below", at(-most, 0, 0), at(-1, 0, 0), api.Ball{}, api.ErrLarge},
		{"imaginary beyond", at(0, most, 0), at(0, 1, 0), api.Ball{}, api.ErrLarge},
		{"imaginary beyond below", at(0, -most, 0), at(0, -1, 0), api.Ball{}, api.ErrLarge},
		{"radius beyond", at(0, 0, most), at(0, 0, 1), api.Ball{}, api.ErrLarge},
		{"-0", api.Ball{Z: complex(minusZero, minusZero)}, api.Ball{Z: complex(minusZero, minusZero)}, api.Ball{}, api.OK},
	})
}

// P1.2: Minus.
func TestMinus(t *testing.T) {
	wantPairs(t, ball.Minus, []pair{
		{"a difference", at(1, 2, 3), at(10, -2, 4), at(-9, 4, 7), api.OK},
		{"of itself", at(5, -7, 1), at(5, -7, 1), at(0, 0, 2), api.OK},
		{"up to MaxBall", at(most-1, 1-most, most-2), at(-1, 1, 2), at(most, -most, most), api.OK},
		{"beyond", at(most, 0, 0), at(-1, 0, 0), api.Ball{}, api.ErrLarge},
		{"radius beyond", at(0, 0, most), at(0, 0, 1), api.Ball{}, api.ErrLarge},
		{"-0", api.Ball{Z: complex(minusZero, minusZero)}, at(0, 0, 0), api.Ball{}, api.OK},
	})
}

// P1.2: Conj.
func TestConj(t *testing.T) {
	for _, x := range []struct{ b, want api.Ball }{
		{at(1, 2, 3), at(1, -2, 3)},
		{at(-most, -most, most), at(-most, most, most)},
		{at(5, 0, 0), at(5, 0, 0)},
		{api.Ball{Z: complex(minusZero, minusZero)}, api.Ball{}},
	} {
		b, e := ball.Conj(x.b)
		wantBall(t, "Conj", b, e, x.want, api.OK)
	}
}

// P1.2: Turned.
func TestTurned(t *testing.T) {
	turns := [4]api.Ball{at(1, 2, 3), at(-2, 1, 3), at(-1, -2, 3), at(2, -1, 3)}
	for quarters := -9; quarters <= 9; quarters++ {
		b, e := ball.Turned(at(1, 2, 3), quarters)
		wantBall(t, "Turned", b, e, turns[(quarters+12)%4], api.OK)
	}
	for _, quarters := range [4]int{0, 1, 2, 3} {
		b, e := ball.Turned(at(7, 0, 0), quarters)
		wantBall(t, "a real one", b, e, [4]api.Ball{at(7, 0, 0), at(0, 7, 0), at(-7, 0, 0), at(0, -7, 0)}[quarters], api.OK)
		b, e = ball.Turned(api.Ball{Z: complex(minusZero, minusZero)}, quarters)
		wantBall(t, "-0", b, e, api.Ball{}, api.OK)
	}
	for _, x := range []struct {
		quarters int
		want     api.Ball
		errno    api.Errno
	}{
		{api.MaxPart, at(1, 2, 3), api.OK},
		{-api.MaxPart, at(1, 2, 3), api.OK},
		{api.MaxPart - 1, at(2, -1, 3), api.OK},
		{1 - api.MaxPart, at(-2, 1, 3), api.OK},
		{api.MaxPart + 1, api.Ball{}, api.ErrRange},
		{-api.MaxPart - 1, api.Ball{}, api.ErrRange},
		{math.MaxInt, api.Ball{}, api.ErrRange},
		{math.MinInt, api.Ball{}, api.ErrRange},
	} {
		b, e := ball.Turned(at(1, 2, 3), x.quarters)
		wantBall(t, "many quarters", b, e, x.want, x.errno)
	}
}

// P1.2: Times; the centre is rounded once, and has 1 more only if it was.
func TestTimes(t *testing.T) {
	wantPairs(t, ball.Times, []pair{
		{"a quarter", at(524288, 0, 0), at(524288, 0, 0), at(262144, 0, 0), api.OK},
		{"3 and a half", at(3, 0, 2), at(524288, 0, 0), at(2, 0, 2), api.OK},
		{"a half and 3", at(524288, 0, 0), at(3, 0, 2), at(2, 0, 2), api.OK},
		{"-3 and a half", at(-3, 0, 0), at(524288, 0, 0), at(-1, 0, 1), api.OK},
		{"half of 1", at(1, 0, 0), at(524288, 0, 0), at(1, 0, 1), api.OK},
		{"half of -1", at(-1, 0, 0), at(524288, 0, 0), at(0, 0, 1), api.OK},
		{"half of i", at(0, 1, 0), at(524288, 0, 0), at(0, 1, 1), api.OK},
		{"half of -i", at(0, -1, 0), at(524288, 0, 0), at(0, 0, 1), api.OK},
		{"i i", at(0, one, 0), at(0, one, 0), at(-one, 0, 0), api.OK},
		{"exact, by One", at(12345, -678, 90), at(one, 0, 0), at(12345, -678, 90), api.OK},
		{"the greatest by One", at(most, -most, most), at(one, 0, 0), at(most, -most, most), api.OK},
		{"all three terms", at(0, 0, 3), at(0, 0, one), at(0, 0, 3), api.OK},
		{"a term of both radii", at(one, 0, 1), at(one, 0, 1), at(one, 0, 3), api.OK},
		{"sizes are rounded up", at(1, 1, 0), at(0, 0, one/2), at(0, 0, 1), api.OK},
		{"rounded up from next to 1", at(1, 1, 0), at(0, 0, one/2+1), at(0, 0, 2), api.OK},
		{"once", at(1448, 1448, 0), at(724, 724, 0), at(0, 2, 1), api.OK},
		{"to MaxBall", at(most, 0, 0), at(0, one, 0), at(0, most, 0), api.OK},
		{"just to MaxBall", at(-1, -most, 0), at(one/2, one, 0), at(most, -33554433, 1), api.OK},
		{"centre beyond", at(most, 0, 0), at(one+1, 0, 0), api.Ball{}, api.ErrLarge},
		{"far beyond", at(most, most, most), at(most, most, most), api.Ball{}, api.ErrLarge},
		{"radius to MaxBall", at(0, 0, most), at(one, 0, 0), at(0, 0, most), api.OK},
		{"radius beyond", at(0, 0, most), at(one+1, 0, 0), api.Ball{}, api.ErrLarge},
		{"radius beyond by 1 more", at(1, 0, most-1), at(one, 1, 0), api.Ball{}, api.ErrLarge},
		{"-0", api.Ball{Z: complex(minusZero, minusZero)}, at(-one, 0, 0), api.Ball{}, api.OK},
		{"-0 by 0", api.Ball{Z: complex(minusZero, 0)}, at(0, 0, 0), api.Ball{}, api.OK},
	})
}

// P1.2: Quotient.
func TestQuotient(t *testing.T) {
	wantPairs(t, ball.Quotient, []pair{
		{"1 by 2", at(one, 0, 0), at(2*one, 0, 0), at(524288, 0, 0), api.OK},
		{"3 by 2", at(3, 0, 0), at(2*one, 0, 0), at(2, 0, 1), api.OK},
		{"-3 by 2", at(-3, 0, 0), at(2*one, 0, 0), at(-1, 0, 1), api.OK},
		{"1 by i", at(one, 0, 0), at(0, one, 0), at(0, -one, 0), api.OK},
		{"i by i", at(0, one, 0), at(0, one, 0), at(one, 0, 0), api.OK},
		{"by One", at(12, -34, 56), at(one, 0, 0), at(12, -34, 56), api.OK},
		{"by 3 + 4 i", at(25, 0, 0), at(3*one, 4*one, 0), at(3, -4, 0), api.OK},
		{"0 by 5", api.Ball{Z: complex(minusZero, minusZero)}, at(-5, 0, 0), api.Ball{}, api.OK},
		{"both radii", at(one, 0, 1), at(one, 0, 1), at(one, 0, 3), api.OK},
		{"a size that is no whole number", at(0, 0, 3), at(one, one, 0), at(0, 0, 3), api.OK},
		{"less its radius", at(0, 0, 100), at(4, 0, 3), api.Ball{}, api.ErrLarge},
		{"less its radius, small", at(0, 0, 1), at(8, 0, 7), at(0, 0, one), api.OK},
		{"by what may be 0", at(3, 0, 0), at(5, 0, 5), api.Ball{}, api.ErrZero},
		{"by what is just not 0", at(0, 0, 0), at(5, 0, 4), at(0, 0, 0), api.OK},
		{"by what has a down of its radius", at(3, 0, 0), at(1, 1, 1), api.Ball{}, api.ErrZero},
		{"by 0", at(0, 0, 0), at(0, 0, 0), api.Ball{}, api.ErrZero},
		{"to MaxBall", at(64, 0, 0), at(1, 0, 0), at(most, 0, 0), api.OK},
		{"just beyond", at(65, 0, 0), at(1, 0, 0), api.Ball{}, api.ErrLarge},
		{"by next to nothing", at(most, most, most), at(1, 0, 0), api.Ball{}, api.ErrLarge},
		{"the greatest", at(most, -most, most), at(-most, most, most), at(-one, 0, 5062973), api.OK},
		{"ErrZero ahead of ErrLarge", at(most, 0, most), at(1, 0, 1), api.Ball{}, api.ErrZero},
	})
}
