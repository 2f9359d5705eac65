package ball_test

import (
	"math"
	"testing"

	"etalon/api"
	"etalon/ball"
)

// P1.1: CheckBall.
func TestCheckBall(t *testing.T) {
	for _, b := range []api.Ball{
		{}, at(most, -most, most), at(-most, most, 0), at(3, -4, 1), {Z: complex(minusZero, minusZero)},
	} {
		if e := ball.CheckBall(b); e != api.OK {
			t.Errorf("%v: %d", b, e)
		}
	}
	for _, x := range wrongBalls() {
		if e := ball.CheckBall(x.b); e != x.errno {
			t.Errorf("%s: %d; want %d", x.name, e, x.errno)
		}
	}
}

// R1: errors of a ball stand ahead of all others, those of the first ball ahead of those of the second one.
func TestErrorsOfBalls(t *testing.T) {
	right := at(one, 0, 0)
	for _, x := range wrongBalls() {
		for _, f := range onesOfBalls() {
			if e, none := f.call(x.b); e != x.errno || !none {
				t.Errorf("%s of %s: %d, %v", f.name, x.name, e, none)
			}
		}
		for _, f := range twosOfBalls() {
			if e, none := f.call(x.b, at(0, 0, 0)); e != x.errno || !none {
				t.Errorf("%s of %s first: %d, %v", f.name, x.name, e, none)
			}
			if e, none := f.call(right, x.b); e != x.errno || !none {
				t.Errorf("%s of %s second: %d, %v", f.name, x.name, e, none)
			}
		}
	}
	for _, f := range twosOfBalls() {
		if e, none := f.call(api.Ball{Z: 0.5}, at(0, 0, -1)); e != api.ErrWhole || !none {
			t.Errorf("%s of two wrong ones: %d, %v", f.name, e, none)
		}
		if e, none := f.call(at(0, 0, -1), api.Ball{Z: 0.5}); e != api.ErrRange || !none {
			t.Errorf("%s of two wrong ones, turned: %d, %v", f.name, e, none)
		}
	}
}

// P1.1: OfRange.
func TestOfRange(t *testing.T) {
	for _, x := range []struct {
		r     api.Range
		want  api.Ball
		errno api.Errno
	}{
		{span(1, 4), at(2, 0, 2), api.OK},
		{span(-4, -1), at(-3, 0, 2), api.OK},
		{span(-1, 0), at(-1, 0, 1), api.OK},
		{span(0, 1), at(0, 0, 1), api.OK},
		{span(0, 0), at(0, 0, 0), api.OK},
		{span(7, 7), at(7, 0, 0), api.OK},
		{span(-most, most), at(0, 0, most), api.OK},
		{span(-most, most-1), at(-1, 0, most), api.OK},
		{span(most, most), at(most, 0, 0), api.OK},
		{span(-most, -most), at(-most, 0, 0), api.OK},
		{span(4, 1), api.Ball{}, api.ErrOrder},
		{span(0, most+1), api.Ball{}, api.ErrRange},
		{span(-most-1, 0), api.Ball{}, api.ErrRange},
		{span(most+1, 0), api.Ball{}, api.ErrRange},
		{span(0, -most-1), api.Ball{}, api.ErrRange},
		{span(math.MinInt, math.MaxInt), api.Ball{}, api.ErrRange},
		{span(math.MaxInt, math.MinInt), api.Ball{}, api.ErrRange},
		{span(0, math.MinInt), api.Ball{}, api.ErrRange},
	} {
		b, e := ball.OfRange(x.r)
		wantBall(t, "OfRange", b, e, x.want, x.errno)
	}
}

// P1.1: OfFrac; a centre that is rounded has 1 more.
func TestOfFrac(t *testing.T) {
	for _, x := range []struct {
		num, den int
		want     api.Ball
		errno    api.Errno
	}{
		{1, 2, at(524288, 0, 0), api.OK},
		{1, 3, at(349525, 0, 1), api.OK},
		{-1, 3, at(-349525, 0, 1), api.OK},
		{2, 3, at(699051, 0, 1), api.OK},
		{-2, 3, at(-699051, 0, 1), api.OK},
		{1, 2 * one, at(1, 0, 1), api.OK},
		{-1, 2 * one, at(0, 0, 1), api.OK},
		{3, 2 * one, at(2, 0, 1), api.OK},
		{-3, 2 * one, at(-1, 0, 1), api.OK},
		{0, 5, at(0, 0, 0), api.OK},
		{1, api.MaxPart, at(0, 0, 1), api.OK},
		{-1, api.MaxPart, at(0, 0, 1), api.OK},
		{api.MaxPart, api.MaxPart, at(one, 0, 0), api.OK},
		{64, 1, at(most, 0, 0), api.OK},
		{-64, 1, at(-most, 0, 0), api.OK},
		{134217729, 2 * one, api.Ball{}, api.ErrLarge},
		{-134217729, 2 * one, at(-most, 0, 1), api.OK},
		{134217727, 2 * one, at(most, 0, 1), api.OK},
		{65, 1, api.Ball{}, api.ErrLarge},
		{api.MaxPart, 1, api.Ball{}, api.ErrLarge},
		{-api.MaxPart, 1, api.Ball{}, api.ErrLarge},
		{1, 0, api.Ball{}, api.ErrRange},
		{1, -1, api.Ball{}, api.ErrRange},
		{1, api.MaxPart + 1, api.Ball{}, api.ErrRange},
		{api.MaxPart + 1, 1, api.Ball{}, api.ErrRange},
		{-api.MaxPart - 1, 1, api.Ball{}, api.ErrRange},
		{math.MinInt, 1, api.Ball{}, api.ErrRange},
		{math.MaxInt, math.MinInt, api.Ball{}, api.ErrRange},
		{1, math.MaxInt, api.Ball{}, api.ErrRange},
	} {
		b, e := ball.OfFrac(x.num, x.den)
		wantBall(t, "OfFrac", b, e, x.want, x.errno)
	}
}
