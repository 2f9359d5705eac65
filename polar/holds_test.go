package polar_test

import (
	"testing"

	"etalon/api"
	"etalon/polar"
)

// must returns a result that has no error.
func must[T any](t *testing.T) func(x T, e api.Errno) T {
	return func(x T, e api.Errno) T {
		t.Helper()
		if e != api.OK {
			t.Fatalf("the error %d", e)
		}
		return x
	}
}

// P5.6: a Mueller matrix does to Stokes vectors what the Jones matrix does to waves, and products stay products.
func TestFromJonesToMueller(t *testing.T) {
	r := draws(40)
	for range 5000 {
		// 4 times 15 times 15 is still no part that is too large.
		a, b, v := drawnJones(r, 15), drawnJones(r, 15), drawnWave(r, 15)
		m := muellerOf(t, a)
		want := must[api.Stokes](t)(polar.StokesOf(must[api.JonesVector](t)(polar.Passed(a, v))))
		got := must[api.Stokes](t)(polar.Through(m, must[api.Stokes](t)(polar.StokesOf(v))))
		for i := range got {
			if got[i] != 2*want[i] {
				t.Fatalf("%v of %v: %v; half of it should be %v", a, v, got, want)
			}
		}
		product := muellerOf(t, must[api.JonesMatrix](t)(polar.Chained(a, b)))
		joined := must[api.Mueller](t)(polar.Joined(m, muellerOf(t, b)))
		for i := range joined {
			if joined[i] != 2*product[i] {
				t.Fatalf("%v and %v: %v; half of it should be %v", a, b, joined, product)
			}
		}
	}
}

// P5.6: the Mueller matrix of a Jones matrix is pure and physical, and gives it back but for a complex number.
func TestBackToJones(t *testing.T) {
	r := draws(41)
	for range 5000 {
		j := drawnJones(r, 22) // 2 times 22 times 22 is no part that is too large.
		m := muellerOf(t, j)
		if j == (api.JonesMatrix{}) {
			continue
		}
		back := must[api.JonesMatrix](t)(polar.JonesOf(m))
		first := 0
		for j[first] == 0 {
			first++
		}
		if real(back[first]) <= 0 || imag(back[first]) != 0 {
			t.Fatalf("%v: %v", j, back)
		}
		for i := range j {
			if j[i]*back[first] != j[first]*back[i] {
				t.Fatalf("%v: %v", j, back)
			}
		}
		if isTested(m) && !must[bool](t)(polar.Physical(m)) {
			t.Fatalf("%v: %v is not physical", j, m)
		}
		// A common phase, and a common factor, are lost.
		factor := [...]complex128{1i, -1, 3, 1 + 2i}[r.IntN(4)]
		for i := range j {
			j[i] *= factor
		}
		if again := must[api.JonesMatrix](t)(polar.JonesOf(muellerOf(t, j))); again != back {
			t.Fatalf("%v: %v; want %v", j, again, back)
		}
	}
}

// P5.7: Stokes vectors of waves are right, and wholly polarised.
func TestWavesArePolarised(t *testing.T) {
	r := draws(42)
	for range 5000 {
		v := drawnWave(r, api.MaxJones)
		s := must[api.Stokes](t)(polar.StokesOf(v))
		wantError(t, "the vector of a wave", polar.CheckStokes(s), api.OK)
		want, errno := api.Frac{Num: 1, Den: 1}, api.OK
		if v == (api.JonesVector{}) {
			want, errno = api.Frac{}, api.ErrZero
		}
		f, e := polar.Degree(s)
		wantSame(t, "degree of a wave", f, e, want, errno)
	}
}

// P5.7: polarisers and plates do to the waves along and across what they should.
func TestAlongAndAcross(t *testing.T) {
	for _, x := range turnsUpTo(10) {
		along, across, size := wave(at(x.P, 0), at(x.Q, 0)), wave(at(-x.Q, 0), at(x.P, 0)), x.R*x.R
		p := must[api.JonesMatrix](t)(polar.Polariser(x))
		out, e := polar.Passed(p, across)
		wantSame(t, "across a polariser", out, e, api.JonesVector{}, api.OK)
		out, e = polar.Passed(p, along)
		wantSame(t, "along a polariser", out, e, wave(at(size*x.P, 0), at(size*x.Q, 0)), api.OK)
		twice, errno := polar.Chained(p, p)
		for i, z := range p {
			if errno == api.OK && twice[i] != at(size, 0)*z {
				t.Errorf("%v twice: %v", p, twice)
			}
		}
		if x.R <= 5 && errno != api.OK {
			t.Errorf("%v twice: %d", p, errno)
		}
		for _, phase := range turnsUpTo(5) {
			m, e := polar.Plate(phase, x)
			if e != api.OK || phase.R*size*x.R > api.MaxJones {
				continue
			}
			factor := at(phase.R*size, 0)
			out, e = polar.Passed(m, along)
			wantSame(t, "along a plate", out, e, wave(factor*along.X, factor*along.Y), api.OK)
			factor = at(phase.P*size, phase.Q*size)
			out, e = polar.Passed(m, across)
			wantSame(t, "across a plate", out, e, wave(factor*across.X, factor*across.Y), api.OK)
		}
	}
}

// P5.8: no matrix has a witness and a sum of squares; each one has one of both, unless Times is too great.
func TestWitnessOrSquares(t *testing.T) {
	r := draws(43)
	for range 10000 {
		m := drawnTested(t, r)
		v, _, none := polar.Witness(m)
		x, errno := polar.Squares(m)
		_, refuted := polar.CheckWitness(m, v)
		_, proved := polar.CheckSquares(m, x)
		physical := must[bool](t)(polar.Physical(m))
		if physical != (none == api.ErrState) || physical == (errno == api.ErrState) {
			t.Fatalf("%v: %v, %d, %d", m, physical, none, errno)
		}
		if refuted == api.OK && proved == api.OK || physical && refuted == api.OK || !physical && proved == api.OK {
			t.Fatalf("%v: %v, %d, %d", m, physical, refuted, proved)
		}
		if refuted != api.OK && proved != api.OK && errno != api.ErrLarge {
			t.Fatalf("%v: neither", m)
		}
		for range 5 { // No other numbers are a witness, either.
			v = [4]complex128{drawnNumber(r, 9), drawnNumber(r, 9), drawnNumber(r, 9), drawnNumber(r, 9)}
			if _, e := polar.CheckWitness(m, v); physical && e != api.ErrProof {
				t.Fatalf("%v: %v, %d", m, v, e)
			}
		}
	}
}

// P5.8: sums of physical matrices are physical, and right light stays right in them.
func TestPhysicalStays(t *testing.T) {
	r := draws(44)
	for range 5000 {
		a, b := drawnPhysical(t, r), drawnPhysical(t, r)
		for _, m := range []api.Mueller{a, b, plus(a, b)} {
			if isTested(m) && !must[bool](t)(polar.Physical(m)) {
				t.Fatalf("%v and %v: %v", a, b, m)
			}
		}
		size := drawnSize(r, 1000000)
		s := api.Stokes{2 * size, drawn(r, size), drawn(r, size), drawn(r, size)}
		if r.IntN(2) == 0 {
			s = must[api.Stokes](t)(polar.StokesOf(drawnWave(r, 1000)))
		}
		out := must[api.Stokes](t)(polar.Through(a, s))
		wantError(t, "what comes through", polar.CheckStokes(out), api.OK)
	}
}

// P5.9: a physical matrix is depolarised from 0 to 1, a pure one 1.
func TestDepolarisedOfSamples(t *testing.T) {
	r := draws(45)
	for range 5000 {
		if m := drawnTested(t, r); must[bool](t)(polar.Physical(m)) && m[0] != 0 {
			f := must[api.Frac](t)(polar.Depolarised(m))
			if f.Num < 0 || f.Num > f.Den {
				t.Fatalf("%v: %v", m, f)
			}
		}
		if j := drawnJones(r, api.MaxJones); j != (api.JonesMatrix{}) {
			f, e := polar.Depolarised(muellerOf(t, j))
			wantSame(t, "a pure one", f, e, api.Frac{Num: 1, Den: 1}, api.OK)
		}
	}
}
