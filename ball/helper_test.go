package ball_test

import (
	"math"
	"math/rand/v2"
	"testing"

	"etalon/api"
	"etalon/ball"
)

const (
	one  = api.One
	most = api.MaxBall
)

// at returns a ball by the parts of its centre and its radius.
func at(x, y, r int) api.Ball { return api.Ball{Z: complex(float64(x), float64(y)), R: r} }

// span returns a range.
func span(lo, hi int) api.Range { return api.Range{Lo: lo, Hi: hi} }

// minusZero is -0, which a constant can not be.
var minusZero = math.Copysign(0, -1)

// wantBall reports a ball or an error that is not the expected one, and each -0.
func wantBall(t *testing.T, name string, b api.Ball, e api.Errno, want api.Ball, errno api.Errno) {
	t.Helper()
	if b != want || e != errno {
		t.Errorf("%s: %v, %d; want %v, %d", name, b, e, want, errno)
	}
	for _, x := range [2]float64{real(b.Z), imag(b.Z)} {
		if x == 0 && math.Signbit(x) {
			t.Errorf("%s: -0 in %v", name, b)
		}
	}
}

// wantSame reports a result or an error that is not the expected one.
func wantSame[T comparable](t *testing.T, name string, got T, e api.Errno, want T, errno api.Errno) {
	t.Helper()
	if got != want || e != errno {
		t.Errorf("%s: %v, %d; want %v, %d", name, got, e, want, errno)
	}
}

// wrong is what CheckBall refuses, with its error.
type wrong struct {
	name  string
	b     api.Ball
	errno api.Errno
}

func wrongBalls() []wrong {
	return []wrong{
		{"half real", api.Ball{Z: 0.5}, api.ErrWhole},
		{"half imaginary", api.Ball{Z: complex(0, -0.5)}, api.ErrWhole},
		{"least part", api.Ball{Z: complex(math.SmallestNonzeroFloat64, 0)}, api.ErrWhole},
		{"NaN real", api.Ball{Z: complex(math.NaN(), 0)}, api.ErrWhole},
		{"NaN imaginary", api.Ball{Z: complex(0, math.NaN())}, api.ErrWhole},
		{"infinite real", api.Ball{Z: complex(math.Inf(1), 0)}, api.ErrWhole},
		{"infinite imaginary", api.Ball{Z: complex(0, math.Inf(-1))}, api.ErrWhole},
		{"not whole ahead of too great", api.Ball{Z: complex(1e300, 0.5)}, api.ErrWhole},
		{"not whole ahead of the radius", api.Ball{Z: 0.5, R: -1}, api.ErrWhole},
		{"real above", at(most+1, 0, 0), api.ErrRange},
		{"real below", at(-most-1, 0, 0), api.ErrRange},
		{"imaginary above", at(0, most+1, 0), api.ErrRange},
		{"imaginary below", at(0, -most-1, 0), api.ErrRange},
		{"greatest float", api.Ball{Z: complex(math.MaxFloat64, 0)}, api.ErrRange},
		{"radius below 0", at(0, 0, -1), api.ErrRange},
		{"radius above", at(0, 0, most+1), api.ErrRange},
		{"greatest radius", at(0, 0, math.MaxInt), api.ErrRange},
		{"least radius", at(0, 0, math.MinInt), api.ErrRange},
	}
}

// oneBall is a function of a ball; it returns its error, and whether the result beside it is the zero value.
type oneBall struct {
	name string
	call func(b api.Ball) (api.Errno, bool)
}

// twoBalls is such a function of two balls.
type twoBalls struct {
	name string
	call func(a, b api.Ball) (api.Errno, bool)
}

func told[T comparable](got T, e api.Errno) (api.Errno, bool) {
	var none T
	return e, got == none
}

func onesOfBalls() []oneBall {
	return []oneBall{
		{"Conj", func(b api.Ball) (api.Errno, bool) { return told(ball.Conj(b)) }},
		{"Turned", func(b api.Ball) (api.Errno, bool) { return told(ball.Turned(b, math.MaxInt)) }},
		{"SizeOf", func(b api.Ball) (api.Errno, bool) { return told(ball.SizeOf(b)) }},
		{"Energy", func(b api.Ball) (api.Errno, bool) { return told(ball.Energy(b)) }},
		{"PartsOf", func(b api.Ball) (api.Errno, bool) { return told(ball.PartsOf(b)) }},
		{"Root", func(b api.Ball) (api.Errno, bool) { return told(ball.Root(b)) }},
		{"Contains", func(b api.Ball) (api.Errno, bool) { return told(ball.Contains(b, complex(math.NaN(), 0))) }},
	}
}

func twosOfBalls() []twoBalls {
	return []twoBalls{
		{"Plus", func(a, b api.Ball) (api.Errno, bool) { return told(ball.Plus(a, b)) }},
		{"Minus", func(a, b api.Ball) (api.Errno, bool) { return told(ball.Minus(a, b)) }},
		{"Times", func(a, b api.Ball) (api.Errno, bool) { return told(ball.Times(a, b)) }},
		{"Quotient", func(a, b api.Ball) (api.Errno, bool) { return told(ball.Quotient(a, b)) }},
		{"Meets", func(a, b api.Ball) (api.Errno, bool) { return told(ball.Meets(a, b)) }},
		{"Inside", func(a, b api.Ball) (api.Errno, bool) { return told(ball.Inside(a, b)) }},
		{"Hull", func(a, b api.Ball) (api.Errno, bool) { return told(ball.Hull(a, b)) }},
	}
}

// draws returns numbers that are the same in every run.
func draws(seed uint64) *rand.Rand { return rand.New(rand.NewPCG(seed, 1)) }

// drawn returns a number from -size to size.
func drawn(r *rand.Rand, size int) int { return r.IntN(2*size+1) - size }

// drawnBall returns a ball of any size: small, of about One, or up to MaxBall.
func drawnBall(r *rand.Rand) api.Ball {
	size := 1 << r.IntN(27)
	width := 1 << r.IntN(27)
	return at(drawn(r, size), drawn(r, size), r.IntN(3)%2*r.IntN(width+1))
}
