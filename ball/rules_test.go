package ball_test

import (
	"math"
	"testing"

	"etalon/api"
	"etalon/ball"
)

// R2: no arguments make a function panic, and beside an error stands the zero value.
func TestNoPanic(t *testing.T) {
	ints := []int{math.MinInt, math.MinInt + 1, -api.MostParts - 1, -api.MostParts, -api.MaxPart - 1, -api.MaxPart, -most, -1, 0, 1, most, api.MaxPart, api.MostParts, math.MaxInt - 1, math.MaxInt}
	parts := []float64{math.Inf(-1), -math.MaxFloat64, -2 * most, -most, -1, minusZero, 0, 0.5, 1, one, most, most + 1, 1 << 62, math.MaxFloat64, math.Inf(1), math.NaN()}
	check := func(name string, e api.Errno, none bool) {
		if e != api.OK && !none {
			t.Errorf("%s: a result beside the error %d", name, e)
		}
	}
	for _, x := range ints {
		for _, y := range ints {
			for name, call := range map[string]func() (api.Errno, bool){
				"OfRange":  func() (api.Errno, bool) { return told(ball.OfRange(span(x, y))) },
				"OfFrac":   func() (api.Errno, bool) { return told(ball.OfFrac(x, y)) },
				"RealRoot": func() (api.Errno, bool) { return told(ball.RealRoot(span(x, y))) },
				"Arc":      func() (api.Errno, bool) { return told(ball.Arc(span(x, y))) },
				"Unit":     func() (api.Errno, bool) { return told(ball.Unit(x, y)) },
				"Fading":   func() (api.Errno, bool) { return told(ball.Fading(span(x, y))) },
				"Turned":   func() (api.Errno, bool) { return told(ball.Turned(at(1, 2, x), y)) },
			} {
				e, none := call()
				check(name, e, none)
			}
		}
	}
	var balls []api.Ball
	for _, x := range parts {
		for _, y := range parts {
			for _, r := range [...]int{math.MinInt, -1, 0, 1, most, math.MaxInt} {
				balls = append(balls, api.Ball{Z: complex(x, y), R: r})
			}
		}
	}
	for i, a := range balls {
		for _, f := range onesOfBalls() {
			e, none := f.call(a)
			check(f.name, e, none)
		}
		if (ball.Format(a) == "") != (ball.CheckBall(a) != api.OK) {
			t.Errorf("Format of %v", a)
		}
		for _, b := range balls[i%7*13:][:300] {
			for _, f := range twosOfBalls() {
				e, none := f.call(a, b)
				check(f.name, e, none)
			}
		}
	}
}

// R6: no result has a -0, whatever the arguments have.
func TestNoMinusZero(t *testing.T) {
	parts := []float64{minusZero, 0, 1, -1, one, -one, most, -most}
	var balls []api.Ball
	for _, x := range parts {
		for _, y := range parts {
			balls = append(balls, api.Ball{Z: complex(x, y)}, api.Ball{Z: complex(x, y), R: 1})
		}
	}
	plain := func(b api.Ball) api.Ball { return at(int(real(b.Z)), int(imag(b.Z)), b.R) }
	for _, a := range balls {
		for _, call := range []func(b api.Ball) (api.Ball, api.Errno){
			ball.Conj, ball.Root,
			func(b api.Ball) (api.Ball, api.Errno) { return ball.Turned(b, 1) },
			func(b api.Ball) (api.Ball, api.Errno) { return ball.Turned(b, -2) },
		} {
			got, e := call(a)
			want, errno := call(plain(a))
			wantBall(t, "of one", got, e, want, errno)
		}
		for _, b := range balls {
			for _, call := range []func(a, b api.Ball) (api.Ball, api.Errno){ball.Plus, ball.Minus, ball.Times, ball.Quotient, ball.Hull} {
				got, e := call(a, b)
				want, errno := call(plain(a), plain(b))
				wantBall(t, "of two", got, e, want, errno)
			}
		}
	}
	for m := -9; m <= 9; m++ {
		b, e := ball.Arc(span(m*api.TurnParts/4, m*api.TurnParts/4))
		wantBall(t, "of an arc", b, e, plain(b), api.OK)
	}
}
