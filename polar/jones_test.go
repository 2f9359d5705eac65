package polar_test

import (
	"testing"

	"etalon/api"
	"etalon/polar"
)

// wrongMatrix is a Jones matrix that is refused, with its error.
type wrongMatrix struct {
	name  string
	m     api.JonesMatrix
	errno api.Errno
}

// wrongMatrices returns wrong Jones matrices: each error at each place, and of two errors that of the first number.
func wrongMatrices() []wrongMatrix {
	var l []wrongMatrix
	for i := range 4 {
		for _, x := range wrongNumbers(api.MaxJones) {
			m := api.JonesMatrix{1, 2i, 3, 4i}
			m[i] = x.z
			l = append(l, wrongMatrix{x.name, m, x.errno})
		}
	}
	return append(l,
		wrongMatrix{"a range ahead of a whole number", api.JonesMatrix{1, 1001, 0.5, 1}, api.ErrRange},
		wrongMatrix{"a whole number ahead of a range", api.JonesMatrix{1, 0.5, 1001, 1}, api.ErrWhole},
		wrongMatrix{"all are wrong", api.JonesMatrix{1001i, 0.5, 0.5, 0.5}, api.ErrRange},
	)
}

// wrongWaves returns wrong waves in the same way.
func wrongWaves() map[api.JonesVector]api.Errno {
	l := map[api.JonesVector]api.Errno{wave(1001, 0.5): api.ErrRange, wave(0.5, 1001): api.ErrWhole, wave(1001i, 1001): api.ErrRange}
	for _, x := range wrongNumbers(api.MaxJones) {
		l[wave(x.z, 1)], l[wave(1, x.z)] = x.errno, x.errno
	}
	return l
}

// P5.1: CheckVector, CheckJones.
func TestCheckNumbers(t *testing.T) {
	for _, v := range []api.JonesVector{{}, wave(1, 1i), wave(1000-1000i, -1000+1000i), wave(complex(minusZero, minusZero), 0)} {
		wantError(t, "a right wave", polar.CheckVector(v), api.OK)
	}
	for v, errno := range wrongWaves() {
		if e := polar.CheckVector(v); e != errno {
			t.Errorf("%v: %d; want %d", v, e, errno)
		}
	}
	for _, m := range []api.JonesMatrix{{}, {1, 2i, 3, -4i}, {1000, -1000i, 1000 + 1000i, -1000 - 1000i}, {complex(0, minusZero)}} {
		wantError(t, "a right matrix", polar.CheckJones(m), api.OK)
	}
	for _, x := range wrongMatrices() {
		wantError(t, x.name, polar.CheckJones(x.m), x.errno)
	}
}

// P5.1: StokesOf.
func TestStokesOf(t *testing.T) {
	for _, x := range []struct {
		v    api.JonesVector
		want api.Stokes
	}{
		{wave(0, 0), api.Stokes{}},
		{wave(1, 1i), api.Stokes{2, 0, 0, 2}},
		{wave(1, -1i), api.Stokes{2, 0, 0, -2}},
		{wave(3, 4), api.Stokes{25, -7, 24, 0}},
		{wave(1, 0), api.Stokes{1, 1, 0, 0}},
		{wave(0, 1), api.Stokes{1, -1, 0, 0}},
		{wave(2i, 2i), api.Stokes{8, 0, 8, 0}},
		{wave(1000+1000i, 1000-1000i), api.Stokes{4000000, 0, 0, -4000000}},
		{wave(complex(minusZero, 1), complex(0, minusZero)), api.Stokes{1, 1, 0, 0}},
	} {
		got, e := polar.StokesOf(x.v)
		wantSame(t, "Stokes vector", got, e, x.want, api.OK)
	}
	r := draws(1)
	for range 20000 {
		v := drawnWave(r, api.MaxJones)
		got, e := polar.StokesOf(v)
		wantSame(t, "Stokes vector", got, e, bookStokes(v), api.OK)
	}
}

// bookPassed returns a matrix times a wave.
func bookPassed(m api.JonesMatrix, v api.JonesVector) (api.JonesVector, api.Errno) {
	out, e := twoOf(m).times(two{{pairOf(v.X)}, {pairOf(v.Y)}}).told()
	return wave(out[0], out[2]), e
}

// P5.1: Passed.
func TestPassed(t *testing.T) {
	for _, x := range []struct {
		m     api.JonesMatrix
		v     api.JonesVector
		want  api.JonesVector
		errno api.Errno
	}{
		{api.JonesMatrix{9, 12, 12, 16}, wave(1, 0), wave(9, 12), api.OK},
		{api.JonesMatrix{1, 0, 0, 1i}, wave(2, 3i), wave(2, -3), api.OK},
		{api.JonesMatrix{1, 2, 3, 4}, wave(1, 1i), wave(1+2i, 3+4i), api.OK},
		{api.JonesMatrix{10, 0, 0, 10}, wave(100, -100i), wave(1000, -1000i), api.OK},
		{api.JonesMatrix{1, 1, 0, 0}, wave(1000, 1), api.JonesVector{}, api.ErrLarge},
		{api.JonesMatrix{0, 0, 1, -1i}, wave(1, 1000-1i), wave(0, -1000i), api.OK},
		{api.JonesMatrix{0, 0, 1i, -1i}, wave(-1, 1000), api.JonesVector{}, api.ErrLarge},
		// What is too large on the way is not asked.
		{api.JonesMatrix{1000, 1000, 1000, -999}, wave(1000, -1000), api.JonesVector{}, api.ErrLarge},
		{api.JonesMatrix{1000, 1000, 1000, 999}, wave(1000, -1000), wave(0, 1000), api.OK},
	} {
		got, e := polar.Passed(x.m, x.v)
		wantSame(t, "passed", got, e, x.want, x.errno)
	}
	r, large := draws(2), 0
	for range 20000 {
		m, v := drawnJones(r, api.MaxJones), drawnWave(r, api.MaxJones)
		want, errno := bookPassed(m, v)
		got, e := polar.Passed(m, v)
		wantSame(t, "passed", got, e, want, errno)
		wantPlain(t, "passed", got.X, got.Y)
		if errno == api.ErrLarge {
			large++
		}
	}
	if large < 1000 || large > 15000 {
		t.Errorf("%d waves are too large", large)
	}
}

// P5.1: Chained.
func TestChained(t *testing.T) {
	for _, x := range []struct {
		a, b, want api.JonesMatrix
		errno      api.Errno
	}{
		{api.JonesMatrix{1, 2, 3, 4}, api.JonesMatrix{0, 1, 1, 0}, api.JonesMatrix{2, 1, 4, 3}, api.OK},
		{api.JonesMatrix{0, 1, 1, 0}, api.JonesMatrix{1, 2, 3, 4}, api.JonesMatrix{3, 4, 1, 2}, api.OK},
		{api.JonesMatrix{1i, 0, 0, 1}, api.JonesMatrix{1i, 0, 0, 2}, api.JonesMatrix{-1, 0, 0, 2}, api.OK},
		{api.JonesMatrix{100, 0, 0, 1}, api.JonesMatrix{-10, 10i, 0, 0}, api.JonesMatrix{-1000, 1000i, 0, 0}, api.OK},
		{api.JonesMatrix{100, 1, 0, 0}, api.JonesMatrix{10, 0, 1, 0}, api.JonesMatrix{}, api.ErrLarge},
		{api.JonesMatrix{0, 0, 100i, 1}, api.JonesMatrix{0, 10, 0, 1i}, api.JonesMatrix{}, api.ErrLarge},
		{api.JonesMatrix{1000, 1000, 0, 0}, api.JonesMatrix{1000, 0, -999, 0}, api.JonesMatrix{1000}, api.OK},
		{api.JonesMatrix{1000, 1000, 0, 0}, api.JonesMatrix{1000, 0, -998, 0}, api.JonesMatrix{}, api.ErrLarge},
		{api.JonesMatrix{1000, 1000, 0, 0}, api.JonesMatrix{1000, 0, -1000, 0}, api.JonesMatrix{}, api.OK},
	} {
		got, e := polar.Chained(x.a, x.b)
		wantSame(t, "chained", got, e, x.want, x.errno)
	}
	r := draws(3)
	for range 20000 {
		a, b := drawnJones(r, api.MaxJones), drawnJones(r, api.MaxJones)
		want, errno := twoOf(a).times(twoOf(b)).told()
		got, e := polar.Chained(a, b)
		wantSame(t, "chained", got, e, want, errno)
		wantPlain(t, "chained", got[:]...)
	}
}

// P5.1, R1: errors of arguments come in their order, beside zero values.
func TestErrorsOfWaves(t *testing.T) {
	right := api.JonesMatrix{1, 0, 0, 1}
	for v, errno := range wrongWaves() {
		s, e := polar.StokesOf(v)
		wantSame(t, "Stokes vector of a wrong wave", s, e, api.Stokes{}, errno)
		out, e := polar.Passed(right, v)
		wantSame(t, "a wrong wave passed", out, e, api.JonesVector{}, errno)
	}
	for _, x := range wrongMatrices() {
		for _, v := range []api.JonesVector{wave(1, 1), wave(0.5, 0), wave(1001, 0)} {
			out, e := polar.Passed(x.m, v)
			wantSame(t, "passed: "+x.name, out, e, api.JonesVector{}, x.errno)
		}
		m, e := polar.Chained(right, x.m)
		wantSame(t, "chained second: "+x.name, m, e, api.JonesMatrix{}, x.errno)
		for _, b := range []api.JonesMatrix{right, {0.5}, {1001}} {
			m, e = polar.Chained(x.m, b)
			wantSame(t, "chained first: "+x.name, m, e, api.JonesMatrix{}, x.errno)
		}
	}
}
