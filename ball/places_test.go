package ball_test

import (
	"math"
	"testing"

	"etalon/api"
	"etalon/ball"
)

// P1.3: SizeOf.
func TestSizeOf(t *testing.T) {
	for _, x := range []struct {
		b    api.Ball
		want api.Range
	}{
		{at(3, 4, 1), span(4, 6)},
		{at(1, 1, 0), span(1, 2)},
		{at(-1, -1, 1), span(0, 3)},
		{at(3, 4, 7), span(0, 12)},
		{at(0, 0, 0), span(0, 0)},
		{at(-5, 0, 0), span(5, 5)},
		{at(most, most, most), span(94906265-most, 94906266+most)},
	} {
		got, e := ball.SizeOf(x.b)
		wantSame(t, "SizeOf", got, e, x.want, api.OK)
	}
}

// P1.3: Energy; it has no limit of its own.
func TestEnergy(t *testing.T) {
	for _, x := range []struct {
		b    api.Ball
		want api.Range
	}{
		{at(3, 4, 1), span(0, 1)},
		{at(one, 0, 0), span(one, one)},
		{at(0, 2*one, 0), span(4*one, 4*one)},
		{at(1024, 0, 0), span(1, 1)},
		{at(1025, 0, 0), span(1, 2)},
		{at(0, 0, 2048), span(0, 4)},
		{at(most, most, most), span(736899854, 25032904005)},
	} {
		got, e := ball.Energy(x.b)
		wantSame(t, "Energy", got, e, x.want, api.OK)
	}
}

// P1.3: PartsOf.
func TestPartsOf(t *testing.T) {
	for _, x := range []struct {
		b    api.Ball
		want [2]api.Range
	}{
		{at(3, 4, 1), [2]api.Range{span(2, 4), span(3, 5)}},
		{at(-3, 0, 4), [2]api.Range{span(-7, 1), span(-4, 4)}},
		{at(-most, most, most), [2]api.Range{span(-2*most, 0), span(0, 2*most)}},
	} {
		got, e := ball.PartsOf(x.b)
		wantSame(t, "PartsOf", got, e, x.want, api.OK)
	}
}

// P1.6: Contains.
func TestContains(t *testing.T) {
	for _, x := range []struct {
		b     api.Ball
		z     complex128
		want  bool
		errno api.Errno
	}{
		{at(3, 4, 1), 3 + 5i, true, api.OK},
		{at(3, 4, 1), 4 + 5i, false, api.OK},
		{at(3, 4, 1), 3 + 6i, false, api.OK},
		{at(3, 4, 5), 0, true, api.OK},
		{at(3, 4, 4), 0, false, api.OK},
		{at(0, 0, 0), complex(minusZero, minusZero), true, api.OK},
		{at(0, 0, 0), 1i, false, api.OK},
		{at(most, 0, most), complex(2*most, 0), true, api.OK},
		{at(-most, -most, most), complex(2*most, 2*most), false, api.OK},
		{at(0, 0, most), complex(most, 1), false, api.OK},
		{at(0, 0, 0), complex(2*most+1, 0), false, api.ErrRange},
		{at(0, 0, 0), complex(0, -2*most-1), false, api.ErrRange},
		{at(0, 0, 0), complex(math.MaxFloat64, 0), false, api.ErrRange},
		{at(0, 0, 0), 0.5, false, api.ErrWhole},
		{at(0, 0, 0), complex(math.MaxFloat64, 0.5), false, api.ErrWhole},
		{at(0, 0, 0), complex(0, math.NaN()), false, api.ErrWhole},
		{at(0, 0, 0), complex(math.Inf(-1), 0), false, api.ErrWhole},
	} {
		got, e := ball.Contains(x.b, x.z)
		wantSame(t, "Contains", got, e, x.want, x.errno)
	}
}

// P1.6: Meets.
func TestMeets(t *testing.T) {
	for _, x := range []struct {
		a, b api.Ball
		want bool
	}{
		{at(0, 0, 2), at(3, 4, 3), true},
		{at(0, 0, 1), at(3, 4, 3), false},
		{at(1, 1, 0), at(1, 1, 0), true},
		{at(0, 0, 0), at(1, 0, 0), false},
		{at(0, 0, 1), at(1, 1, 0), false},
		{at(-most, 0, most), at(most, 0, most), true},
		{at(-most, 0, most), at(most, 1, most), false},
	} {
		got, e := ball.Meets(x.a, x.b)
		wantSame(t, "Meets", got, e, x.want, api.OK)
		got, e = ball.Meets(x.b, x.a)
		wantSame(t, "Meets, turned", got, e, x.want, api.OK)
	}
}

// P1.6: Inside.
func TestInside(t *testing.T) {
	for _, x := range []struct {
		a, b api.Ball
		want bool
	}{
		{at(3, 4, 1), at(0, 0, 6), true},
		{at(3, 4, 1), at(0, 0, 5), false},
		{at(3, 4, 1), at(3, 4, 1), true},
		{at(3, 4, 2), at(3, 4, 1), false},
		{at(0, 0, 9), at(3, 4, 1), false},
		{at(0, 0, 6), at(3, 4, 1), false},
		{at(-most, 0, 0), at(0, 0, most), true},
		{at(-most, 1, 0), at(0, 0, most), false},
	} {
		got, e := ball.Inside(x.a, x.b)
		wantSame(t, "Inside", got, e, x.want, api.OK)
	}
}

// P1.6: Hull; its centre is rounded, and there is no 1 more.
func TestHull(t *testing.T) {
	wantPairs(t, ball.Hull, []pair{
		{"the example", at(0, 0, 0), at(10, 0, 2), at(5, 0, 7), api.OK},
		{"the example, turned", at(10, 0, 2), at(0, 0, 0), at(5, 0, 7), api.OK},
		{"of itself", at(3, -4, 5), at(3, -4, 5), at(3, -4, 5), api.OK},
		{"halves up", at(0, 0, 0), at(1, -1, 0), at(1, 0, 1), api.OK},
		{"halves up below 0", at(0, 0, 0), at(-1, -3, 0), at(0, -1, 3), api.OK},
		{"a distance that is no whole number", at(0, 0, 1), at(2, 2, 1), at(1, 1, 3), api.OK},
		{"a ball in a ball", at(0, 0, 10), at(2, 0, 1), at(1, 0, 11), api.OK},
		{"to MaxBall", at(-most, 0, 0), at(most, 0, 0), at(0, 0, most), api.OK},
		{"beyond", at(-most, 0, 0), at(most, 0, 1), api.Ball{}, api.ErrLarge},
		{"far beyond", at(-most, -most, most), at(most, most, most), api.Ball{}, api.ErrLarge},
		{"-0", api.Ball{Z: complex(minusZero, minusZero)}, at(0, 0, 0), api.Ball{}, api.OK},
	})
}
