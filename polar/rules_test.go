package polar_test

import (
	"math"
	"math/rand/v2"
	"slices"
	"testing"

	"etalon/api"
	"etalon/polar"
)

// oddNumber returns a number whose parts are anything.
func oddNumber(r *rand.Rand) complex128 {
	l := oddParts()
	return complex(l[r.IntN(len(l))], l[r.IntN(len(l))])
}

// fewOdd returns numbers, of which few are anything.
func fewOdd(r *rand.Rand) [4]complex128 {
	v := [4]complex128(drawnJones(r, 2))
	for range r.IntN(3) {
		v[r.IntN(4)] = oddNumber(r)
	}
	return v
}

// R2: no arguments make a function of waves and Jones matrices panic, and beside an error stands the zero value.
func TestNoPanic(t *testing.T) {
	r := draws(50)
	check := func(name string, e api.Errno, none bool) {
		if e != api.OK && !none {
			t.Errorf("%s: a result beside the error %d", name, e)
		}
	}
	ints := oddInts()
	odd := func() int { return ints[r.IntN(len(ints))] }
	for range 20000 {
		a, b, x, phase := api.JonesMatrix(fewOdd(r)), api.JonesMatrix(fewOdd(r)), turn(odd(), odd(), odd()), turn(odd(), odd(), odd())
		v := wave(a[3], b[0])
		for name, call := range map[string]func() (api.Errno, bool){
			"StokesOf":  func() (api.Errno, bool) { return told(polar.StokesOf(v)) },
			"Passed":    func() (api.Errno, bool) { return told(polar.Passed(a, v)) },
			"Chained":   func() (api.Errno, bool) { return told(polar.Chained(a, b)) },
			"Rotation":  func() (api.Errno, bool) { return told(polar.Rotation(x)) },
			"Turned":    func() (api.Errno, bool) { return told(polar.Turned(a, x)) },
			"Polariser": func() (api.Errno, bool) { return told(polar.Polariser(x)) },
			"Plate":     func() (api.Errno, bool) { return told(polar.Plate(phase, x)) },
			"MuellerOf": func() (api.Errno, bool) { return told(polar.MuellerOf(a)) },
		} {
			e, none := call()
			check(name, e, none)
		}
	}
}

// R2: no arguments make a function of Stokes vectors and Mueller matrices panic, and beside an error stands the zero value.
func TestNoPanicOfMuellers(t *testing.T) {
	r := draws(51)
	ints := oddInts()
	odd := func() int { return ints[r.IntN(len(ints))] }
	for range 20000 {
		m, s := drawnTested(t, r), api.Stokes{odd(), odd(), odd(), odd()}
		for range r.IntN(4) {
			m[r.IntN(16)] = odd()
		}
		x := api.PolarSquares{Times: odd(), Terms: []api.PolarSquare{{Weight: odd(), Matrix: fewOdd(r)}, {Weight: odd(), Matrix: fewOdd(r)}}}
		x.Terms = x.Terms[:r.IntN(3)]
		scale, v := odd(), fewOdd(r)
		calls := append(functionsOfMueller(),
			ofMueller{"Through", most, func(m api.Mueller) (api.Errno, bool) { return told(polar.Through(m, s)) }},
			ofMueller{"Degree", most, func(m api.Mueller) (api.Errno, bool) { return told(polar.Degree(s)) }},
			ofMueller{"CheckWitness", most, func(m api.Mueller) (api.Errno, bool) { return told(polar.CheckWitness(m, v)) }},
			ofMueller{"CheckSquares", most, func(m api.Mueller) (api.Errno, bool) { return told(polar.CheckSquares(m, x)) }},
			ofMueller{"PassiveWithin", most, func(m api.Mueller) (api.Errno, bool) { return told(polar.PassiveWithin(m, scale)) }},
		)
		for _, f := range calls {
			if e, none := f.call(m); e != api.OK && !none {
				t.Errorf("%s of %v: a result beside the error %d", f.name, m, e)
			}
		}
	}
}

// R6: -0 counts as 0 in arguments, and no result has it.
func TestNoMinusZero(t *testing.T) {
	r := draws(52)
	parts := []float64{minusZero, 0, minusZero, 1, -1, 2}
	drawnPart := func() float64 { return parts[r.IntN(len(parts))] }
	plain := func(m api.JonesMatrix) api.JonesMatrix {
		for i, z := range m {
			m[i] = at(int(real(z)), int(imag(z)))
		}
		return m
	}
	turns := turnsUpTo(5)
	for range 20000 {
		var a, b api.JonesMatrix
		for i := range a {
			a[i], b[i] = complex(drawnPart(), drawnPart()), complex(drawnPart(), drawnPart())
		}
		x := turns[r.IntN(len(turns))]
		for name, call := range map[string]func(a, b api.JonesMatrix) (api.JonesMatrix, api.Errno){
			"Chained": polar.Chained,
			"Turned":  func(a, b api.JonesMatrix) (api.JonesMatrix, api.Errno) { return polar.Turned(a, x) },
			"Passed": func(a, b api.JonesMatrix) (api.JonesMatrix, api.Errno) {
				v, e := polar.Passed(a, wave(b[0], b[1]))
				return api.JonesMatrix{v.X, v.Y}, e
			},
			"JonesOf": func(a, b api.JonesMatrix) (api.JonesMatrix, api.Errno) { return polar.JonesOf(muellerOf(t, a)) },
		} {
			got, e := call(a, b)
			want, errno := call(plain(a), plain(b))
			wantSame(t, name, got, e, want, errno)
			wantPlain(t, name, got[:]...)
		}
		m := muellerOf(t, a)
		if m != muellerOf(t, plain(a)) {
			t.Errorf("%v: %v", a, m)
		}
		value, e := polar.CheckWitness(diagonal(1, 1, 1, -1), a)
		want, errno := polar.CheckWitness(diagonal(1, 1, 1, -1), plain(a))
		wantSame(t, "CheckWitness", value, e, want, errno)
		sum := api.PolarSquares{Times: 1, Terms: []api.PolarSquare{{Weight: 4, Matrix: a}}}
		n, e := polar.CheckSquares(m, sum)
		wantSame(t, "CheckSquares", n, e, 1, api.OK)
	}
}

// R3: CheckSquares does not write into its argument, and a list has nothing to do with what is behind its end.
func TestArgumentsStay(t *testing.T) {
	terms := []api.PolarSquare{term(2, 1, 0, 0, 1), term(0, complex(math.NaN(), 0), 0, 0, 0)}
	n, e := polar.CheckSquares(diagonal(1, 1, 1, 1), api.PolarSquares{Times: 1, Terms: terms[:1]})
	wantSame(t, "a list with more behind it", n, e, 1, api.OK)
	if terms[0] != term(2, 1, 0, 0, 1) || terms[1].Weight != 0 || !math.IsNaN(real(terms[1].Matrix[0])) {
		t.Errorf("the terms became %v", terms)
	}
}

// R3, R4: results share no memory, and are the same in each call.
func TestResultsApart(t *testing.T) {
	m := diagonal(1, 0, 0, 0)
	want := must[api.PolarSquares](t)(polar.Squares(m))
	x := must[api.PolarSquares](t)(polar.Squares(m))
	x.Terms[0].Weight, x.Terms[0].Matrix[0] = 7, 7
	_ = append(x.Terms[:1], term(9, 9, 9, 9, 9))
	again := must[api.PolarSquares](t)(polar.Squares(m))
	if !sameSquares(want, again) || slices.Equal(x.Terms, want.Terms) {
		t.Errorf("%v; want %v", again, want)
	}
	r := draws(53)
	for range 500 {
		m := drawnTested(t, r)
		v, value, e := polar.Witness(m)
		sameV, sameValue, sameE := polar.Witness(m)
		if v != sameV || value != sameValue || e != sameE {
			t.Errorf("%v: %v, %d, %d; then %v, %d, %d", m, v, value, e, sameV, sameValue, sameE)
		}
	}
}

// R5: a nil list and an empty one are the same.
func TestEmptyLists(t *testing.T) {
	for _, m := range []api.Mueller{{}, diagonal(1, 1, 1, 1)} {
		n, e := polar.CheckSquares(m, api.PolarSquares{Times: 3})
		same, errno := polar.CheckSquares(m, api.PolarSquares{Times: 3, Terms: []api.PolarSquare{}})
		wantSame(t, "an empty list", n, e, same, errno)
	}
	x, e := polar.Squares(api.Mueller{})
	n, errno := polar.CheckSquares(api.Mueller{}, x)
	wantSame(t, "the squares of 0", n, max(e, errno), 0, api.OK)
}
