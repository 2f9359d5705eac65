package ball_test

import (
	"math"
	"testing"

	"etalon/api"
	"etalon/ball"
)

// P1.5: Arc.
func TestArc(t *testing.T) {
	const quarter = api.TurnParts / 4
	for _, x := range []struct {
		lo, hi int
		want   api.Ball
		errno  api.Errno
	}{
		{0, 0, at(one, 0, 0), api.OK},
		{quarter, quarter, at(0, one, 0), api.OK},
		{2 * quarter, 2 * quarter, at(-one, 0, 0), api.OK},
		{3 * quarter, 3 * quarter, at(0, -one, 0), api.OK},
		{4 * quarter, 4 * quarter, at(one, 0, 0), api.OK},
		{-quarter, -quarter, at(0, -one, 0), api.OK},
		{-7 * quarter, -7 * quarter, at(0, one, 0), api.OK},
		{0, quarter, at(741455, 741455, 823884), api.OK},
		{524288, 524288, at(741455, 741455, 2), api.OK},
		{524288 + quarter, 524288 + quarter, at(-741455, 741455, 2), api.OK},
		{524288 + 2*quarter, 524288 + 2*quarter, at(-741455, -741455, 2), api.OK},
		{-524288, -524288, at(741455, -741455, 2), api.OK},
		{1, 1, at(one, 2, 2), api.OK},
		{-1, -1, at(one, -2, 2), api.OK},
		{524287, 524287, at(741456, 741454, 2), api.OK},
		{524289, 524289, at(741454, 741456, 2), api.OK},
		{262144, 262144, at(968758, 401273, 2), api.OK},
		{123456, 123456, at(1030695, 192821, 2), api.OK},
		{349525, 349525, at(908094, 524288, 2), api.OK},
		{1048575, 1048575, at(2, one, 2), api.OK},
		{1048577, 1048577, at(-2, one, 2), api.OK},
		{3000000, 3000000, at(-227095, -1023689, 2), api.OK},
		{4194303, 4194303, at(one, -2, 2), api.OK},
		{0, 7, at(one, 5, 9), api.OK},
		{-3, 5, at(one, 2, 9), api.OK},
		{-5, -2, at(one, -6, 6), api.OK},
		{0, 14, at(one, 11, 13), api.OK},
		{100000, 200000, at(1022215, 233642, 78574), api.OK},
		{1500000, 1500001, at(-656272, 817814, 4), api.OK},
		{0, 85411278, at(435597, 953817, most), api.OK},
		{0, 85411279, api.Ball{}, api.ErrLarge},
		{api.MostParts, api.MostParts, at(one, 0, 0), api.OK},
		{-api.MostParts, -api.MostParts, at(one, 0, 0), api.OK},
		{-api.MostParts, api.MostParts, api.Ball{}, api.ErrLarge},
		{api.MostParts, -api.MostParts, api.Ball{}, api.ErrOrder},
		{1, 0, api.Ball{}, api.ErrOrder},
		{0, api.MostParts + 1, api.Ball{}, api.ErrRange},
		{-api.MostParts - 1, 0, api.Ball{}, api.ErrRange},
		{api.MostParts + 1, 0, api.Ball{}, api.ErrRange},
		{math.MinInt, math.MaxInt, api.Ball{}, api.ErrRange},
		{math.MaxInt, math.MinInt, api.Ball{}, api.ErrRange},
	} {
		b, e := ball.Arc(span(x.lo, x.hi))
		wantBall(t, "Arc", b, e, x.want, x.errno)
	}
}

// P1.5: Unit.
func TestUnit(t *testing.T) {
	for _, x := range []struct {
		num, den int
		want     api.Ball
		errno    api.Errno
	}{
		{1, 4, at(0, one, 0), api.OK},
		{-1, 2, at(-one, 0, 0), api.OK},
		{3, 4, at(0, -one, 0), api.OK},
		{0, 9, at(one, 0, 0), api.OK},
		{1, 8, at(741455, 741455, 2), api.OK},
		{1, 3, at(-524288, 908094, 4), api.OK},
		{-1, 3, at(-524289, -908093, 4), api.OK},
		{2, 7, at(-233329, 1022286, 4), api.OK},
		{1, api.MaxPart, at(one, 0, 4), api.OK},
		{-1, api.MaxPart, at(one, -2, 4), api.OK},
		{api.MaxPart, 1, at(one, 0, 0), api.OK},
		{api.MaxPart, 7, at(653776, -819810, 4), api.OK},
		{-api.MaxPart, 999999999, at(one, -2, 4), api.OK},
		{1, 0, api.Ball{}, api.ErrRange},
		{1, -4, api.Ball{}, api.ErrRange},
		{api.MaxPart + 1, 1, api.Ball{}, api.ErrRange},
		{-api.MaxPart - 1, 1, api.Ball{}, api.ErrRange},
		{1, api.MaxPart + 1, api.Ball{}, api.ErrRange},
		{math.MinInt, math.MinInt, api.Ball{}, api.ErrRange},
		{math.MaxInt, math.MaxInt, api.Ball{}, api.ErrRange},
	} {
		b, e := ball.Unit(x.num, x.den)
		wantBall(t, "Unit", b, e, x.want, x.errno)
	}
}

// P1.5: Fading.
func TestFading(t *testing.T) {
	for _, x := range []struct {
		lo, hi int
		want   api.Range
		errno  api.Errno
	}{
		{0, 0, span(one, one), api.OK},
		{0, 1, span(1048574, one), api.OK},
		{1, 1, span(1048574, 1048575), api.OK},
		{2, 2, span(1048572, 1048573), api.OK},
		{100, 100, span(1048418, 1048419), api.OK},
		{652, 652, span(1047552, 1047553), api.OK},
		{653, 653, span(1047550, 1047551), api.OK},
		{1896, 1896, span(1045601, 1045603), api.OK},
		{1000, 2000, span(1045439, 1047007), api.OK},
		{12345, 678901, span(379240, 1029363), api.OK},
		{1048576, 1048576, span(217976, 217979), api.OK},
		{4194304, 4194304, span(1958, 1959), api.OK},
		{8388608, 8388608, span(3, 4), api.OK},
		{api.MostFade, api.MostFade, span(0, 1), api.OK},
		{api.MostFade - 1, api.MostFade + 1, span(0, 1), api.OK},
		{0, api.MostFade, span(0, one), api.OK},
		{0, api.MostFade + 1, span(0, one), api.OK},
		{20000000, 20000000, span(0, 1), api.OK},
		{0, api.MostParts, span(0, one), api.OK},
		{api.MostParts, api.MostParts, span(0, 1), api.OK},
		{-1, 0, api.Range{}, api.ErrRange},
		{-1, -2, api.Range{}, api.ErrRange},
		{0, api.MostParts + 1, api.Range{}, api.ErrRange},
		{api.MostParts + 1, 0, api.Range{}, api.ErrRange},
		{math.MinInt, math.MaxInt, api.Range{}, api.ErrRange},
		{math.MaxInt, math.MinInt, api.Range{}, api.ErrRange},
		{1, 0, api.Range{}, api.ErrOrder},
		{0, -1, api.Range{}, api.ErrOrder},
		{0, math.MinInt, api.Range{}, api.ErrOrder},
	} {
		f, e := ball.Fading(span(x.lo, x.hi))
		wantSame(t, "Fading", f, e, x.want, x.errno)
	}
}

// P1.9: unit numbers have the energy 1, and lie where sine and cosine say.
func TestUnitNumbers(t *testing.T) {
	r := draws(20)
	for range 20000 {
		num, den := drawn(r, api.MaxPart), 1+r.IntN(1<<(1+r.IntN(29)))
		b, e := ball.Unit(num, den)
		if e != api.OK {
			t.Fatalf("Unit(%d, %d): %d", num, den, e)
		}
		if n, e := ball.Energy(b); n.Lo > one || n.Hi < one || e != api.OK {
			t.Fatalf("Unit(%d, %d): energy %v", num, den, n)
		}
		sin, cos := math.Sincos(2 * math.Pi * float64(num%den) / float64(den))
		if math.Hypot(cos*one-real(b.Z), sin*one-imag(b.Z)) > float64(b.R)+1e-3 {
			t.Fatalf("Unit(%d, %d): %v", num, den, b)
		}
	}
}

// P1.9: the unit numbers of t and u, multiplied, meet that of t and u together.
func TestUnitProducts(t *testing.T) {
	r := draws(21)
	for range 20000 {
		den, n, m := 1+r.IntN(api.MaxPart), drawn(r, api.MaxPart/2), drawn(r, api.MaxPart/2)
		a, _ := ball.Unit(n, den)
		b, _ := ball.Unit(m, den)
		both, e := ball.Unit(n+m, den)
		if e != api.OK {
			t.Fatal(e)
		}
		product, e := ball.Times(a, b)
		if e != api.OK {
			t.Fatal(e)
		}
		if meets, e := ball.Meets(product, both); !meets || e != api.OK {
			t.Fatalf("%d and %d of %d: %v and %v", n, m, den, product, both)
		}
	}
}

// P1.9: the ball of an arc meets that of each part of the arc, and has all its numbers.
func TestArcParts(t *testing.T) {
	r := draws(22)
	for range 20000 {
		lo := drawn(r, 1<<r.IntN(40))
		hi := lo + r.IntN(1<<r.IntN(26))
		b, e := ball.Arc(span(lo, hi))
		if e != api.OK {
			t.Fatalf("%d to %d: %d", lo, hi, e)
		}
		from := lo + r.IntN(hi-lo+1)
		to := from + r.IntN(hi-from+1)
		part, _ := ball.Arc(span(from, to))
		if meets, e := ball.Meets(b, part); !meets || e != api.OK {
			t.Fatalf("%d to %d: %v; %d to %d: %v", lo, hi, b, from, to, part)
		}
		sin, cos := math.Sincos(2 * math.Pi * float64(from%api.TurnParts) / api.TurnParts)
		if math.Hypot(cos*one-real(b.Z), sin*one-imag(b.Z)) > float64(b.R)+1e-3 {
			t.Fatalf("%d to %d: %v has not %d", lo, hi, b, from)
		}
	}
}

// P1.9: what fades by two numbers of parts, multiplied, meets what fades by both together.
func TestFadingProducts(t *testing.T) {
	r := draws(23)
	for range 20000 {
		p, q := r.IntN(1<<r.IntN(25)), r.IntN(1<<r.IntN(25))
		a, _ := ball.Fading(span(p, p))
		b, _ := ball.Fading(span(q, q))
		both, e := ball.Fading(span(p+q, p+q))
		if e != api.OK {
			t.Fatal(e)
		}
		if a.Lo*b.Lo > both.Hi*one || a.Hi*b.Hi < both.Lo*one {
			t.Fatalf("%d and %d: %v, %v and %v", p, q, a, b, both)
		}
		right := math.Exp(-2*math.Pi*float64(p)/api.TurnParts) * one
		if float64(a.Lo) > right+1e-3 || float64(a.Hi) < right-1e-3 {
			t.Fatalf("%d: %v has not %f", p, a, right)
		}
	}
}
