package polar_test

import (
	"math"
	"math/rand/v2"
	"testing"

	"etalon/api"
	"etalon/polar"
)

// minusZero is -0, which a constant can not be.
var minusZero = math.Copysign(0, -1)

// at returns a number by its parts.
func at(x, y int) complex128 { return complex(float64(x), float64(y)) }

// wave returns a wave by its parts.
func wave(x, y complex128) api.JonesVector { return api.JonesVector{X: x, Y: y} }

// turn returns a turn by its numbers.
func turn(p, q, r int) api.PolarTurn { return api.PolarTurn{P: p, Q: q, R: r} }

// diagonal returns the Mueller matrix with these numbers in the diagonal.
func diagonal(a, b, c, d int) api.Mueller { return api.Mueller{0: a, 5: b, 10: c, 15: d} }

// wantSame reports a result or an error that is not the expected one.
func wantSame[T comparable](t *testing.T, name string, got T, e api.Errno, want T, errno api.Errno) {
	t.Helper()
	if got != want || e != errno {
		t.Errorf("%s: %v, %d; want %v, %d", name, got, e, want, errno)
	}
}

// wantError reports an error that is not the expected one.
func wantError(t *testing.T, name string, e, want api.Errno) {
	t.Helper()
	if e != want {
		t.Errorf("%s: %d; want %d", name, e, want)
	}
}

// wantPlain reports each -0, and each part that is not whole.
func wantPlain(t *testing.T, name string, numbers ...complex128) {
	t.Helper()
	for _, z := range numbers {
		for _, x := range [2]float64{real(z), imag(z)} {
			if x == 0 && math.Signbit(x) || math.Trunc(x) != x || math.IsInf(x, 0) {
				t.Errorf("%s: %v", name, numbers)
				return
			}
		}
	}
}

// draws returns numbers that are the same in every run.
func draws(seed uint64) *rand.Rand { return rand.New(rand.NewPCG(seed, 5)) }

// drawn returns a number from -size to size.
func drawn(r *rand.Rand, size int) int { return r.IntN(2*size+1) - size }

// drawnNumber returns a number with parts up to size.
func drawnNumber(r *rand.Rand, size int) complex128 { return at(drawn(r, size), drawn(r, size)) }

// drawnSize returns a size up to most, all orders of magnitude being as likely.
func drawnSize(r *rand.Rand, most int) int {
	return min(most, r.IntN(1+1<<r.IntN(2+int(math.Log2(float64(most))))))
}

// drawnWave returns a wave of any size.
func drawnWave(r *rand.Rand, most int) api.JonesVector {
	size := drawnSize(r, most)
	return wave(drawnNumber(r, size), drawnNumber(r, size))
}

// drawnJones returns a Jones matrix of any size, with some numbers that are 0.
func drawnJones(r *rand.Rand, most int) api.JonesMatrix {
	var m api.JonesMatrix
	size := drawnSize(r, most)
	for i := range m {
		if r.IntN(4) > 0 {
			m[i] = drawnNumber(r, size)
		}
	}
	return m
}

// drawnMueller returns a Mueller matrix of any numbers up to most.
func drawnMueller(r *rand.Rand, most int) api.Mueller {
	var m api.Mueller
	size := drawnSize(r, most)
	for i := range m {
		if r.IntN(4) > 0 {
			m[i] = drawn(r, size)
		}
	}
	return m
}

// turnsUpTo returns all right turns whose R is at most so great.
func turnsUpTo(most int) []api.PolarTurn {
	var l []api.PolarTurn
	for r := 1; r <= most; r++ {
		for p := -r; p <= r; p++ {
			q := int(math.Sqrt(float64(r*r - p*p)))
			if p*p+q*q != r*r {
				continue
			}
			l = append(l, turn(p, q, r))
			if q != 0 {
				l = append(l, turn(p, -q, r))
			}
		}
	}
	return l
}

// plus returns the sum of Mueller matrices.
func plus(l ...api.Mueller) api.Mueller {
	var sum api.Mueller
	for _, m := range l {
		for i, n := range m {
			sum[i] += n
		}
	}
	return sum
}

// muellerOf returns the Mueller matrix of a right Jones matrix.
func muellerOf(t *testing.T, j api.JonesMatrix) api.Mueller {
	t.Helper()
	m, e := polar.MuellerOf(j)
	if e != api.OK {
		t.Fatalf("%v: %d", j, e)
	}
	return m
}

// isTested says whether all numbers of a matrix are at most MaxPhysical in size.
func isTested(m api.Mueller) bool {
	for _, n := range m {
		if n < -api.MaxPhysical || n > api.MaxPhysical {
			return false
		}
	}
	return true
}

// drawnPhysical returns a physical matrix that is tested: the sum of Mueller matrices of small Jones matrices.
func drawnPhysical(t *testing.T, r *rand.Rand) api.Mueller {
	var m api.Mueller
	for range r.IntN(6) {
		if more := plus(m, muellerOf(t, drawnJones(r, 1+r.IntN(3)))); isTested(more) {
			m = more
		}
	}
	return m
}

// drawnTested returns a tested matrix: physical, nearly so, with many greatest numbers, or any.
func drawnTested(t *testing.T, r *rand.Rand) api.Mueller {
	switch r.IntN(5) {
	case 0:
		return drawnMueller(r, api.MaxPhysical)
	case 4:
		// Greatest numbers make greatest witnesses.
		var m api.Mueller
		for i := range m {
			m[i] = max(-api.MaxPhysical, min(api.MaxPhysical, drawn(r, 4*api.MaxPhysical)))
		}
		m[0] = api.MaxPhysical
		return m
	case 1:
		var m api.Mueller
		for i, size := 1, 1+r.IntN(12); i < len(m); i++ {
			m[i] = drawn(r, size)
		}
		m[0] = api.MaxPhysical - r.IntN(2)*r.IntN(api.MaxPhysical+1)
		return m
	}
	m := drawnPhysical(t, r)
	for range r.IntN(3) {
		i := r.IntN(len(m))
		m[i] = max(-api.MaxPhysical, min(api.MaxPhysical, m[i]+drawn(r, 2)))
	}
	return m
}

// wrongNumber is a number that is refused, with its error.
type wrongNumber struct {
	name  string
	z     complex128
	errno api.Errno
}

// wrongNumbers returns what is refused where parts are at most most in size.
func wrongNumbers(most float64) []wrongNumber {
	return []wrongNumber{
		{"half real", complex(0.5, 1), api.ErrWhole},
		{"half imaginary", complex(1, -0.5), api.ErrWhole},
		{"the least part", complex(math.SmallestNonzeroFloat64, 0), api.ErrWhole},
		{"NaN real", complex(math.NaN(), 0), api.ErrWhole},
		{"NaN imaginary", complex(0, math.NaN()), api.ErrWhole},
		{"infinite real", complex(math.Inf(1), 0), api.ErrWhole},
		{"infinite imaginary", complex(0, math.Inf(-1)), api.ErrWhole},
		{"not whole beside too great", complex(most+1, 0.5), api.ErrWhole},
		{"too great and not whole", complex(most+0.5, 0), api.ErrWhole},
		{"real above", complex(most+1, 0), api.ErrRange},
		{"real below", complex(-most-1, 0), api.ErrRange},
		{"imaginary above", complex(0, most+1), api.ErrRange},
		{"imaginary below", complex(0, -most-1), api.ErrRange},
		{"the greatest float", complex(math.MaxFloat64, 0), api.ErrRange},
		{"beyond ints", complex(0, -1<<63), api.ErrRange},
	}
}

// oddInts are ints at all kinds of ends.
func oddInts() []int {
	return []int{
		math.MinInt, math.MinInt + 1, -1 << 32, -api.MaxStokes - 1, -api.MaxStokes, -api.MaxPure - 1, -api.MaxPure, -41, -40, -5, -1, 0, 1, 3, 4, 5, 40, 41,
		1000, 1001, api.MaxPure, api.MaxPure + 1, api.MaxStokes, api.MaxStokes + 1, 1 << 32, api.MaxSquare, api.MaxSquare + 1, math.MaxInt - 1, math.MaxInt,
	}
}

// oddParts are parts of numbers at all kinds of ends.
func oddParts() []float64 {
	return []float64{
		math.Inf(-1), -math.MaxFloat64, -1 << 63, -api.MaxWitness - 1, -api.MaxWitness, -1001, -1000, -1, minusZero, 0, math.SmallestNonzeroFloat64,
		0.5, 1, 2, 1000, 1001, api.MaxWitness, api.MaxWitness + 1, 1 << 63, math.MaxFloat64, math.Inf(1), math.NaN(),
	}
}
