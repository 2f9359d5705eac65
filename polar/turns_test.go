package polar_test

import (
	"math"
	"testing"

	"etalon/api"
	"etalon/polar"
)

// wrongTurns returns turns that are refused, with their errors.
func wrongTurns() map[api.PolarTurn]api.Errno {
	l := map[api.PolarTurn]api.Errno{
		{}: api.ErrRange, turn(3, 4, -5): api.ErrRange, turn(0, 1, -1): api.ErrRange, turn(1001, 0, 1001): api.ErrRange,
		turn(0, math.MaxInt, math.MaxInt): api.ErrRange, turn(0, math.MinInt, math.MinInt): api.ErrRange,
		turn(1, 1, 0): api.ErrRange, turn(1, 1, 1001): api.ErrRange,
		turn(1, 1, 1): api.ErrShape, turn(0, 0, 1): api.ErrShape, turn(3, 4, 6): api.ErrShape, turn(3, 5, 5): api.ErrShape,
		turn(1001, 0, 1000): api.ErrShape, turn(0, -1001, 1000): api.ErrShape, turn(600, 801, 1000): api.ErrShape,
		// The squares of these wrap around to those of right turns.
		turn(1<<32, 5, 5): api.ErrShape, turn(5, 1<<32, 5): api.ErrShape, turn(math.MinInt, 1, 1): api.ErrShape, turn(0, 1<<63-1, 1): api.ErrShape,
		turn(1<<63-1, 0, 1): api.ErrShape, turn(-1<<32, -1<<32, 1): api.ErrShape, turn(math.MinInt, math.MinInt, 1000): api.ErrShape,
	}
	return l
}

// P5.2: CheckTurn.
func TestCheckTurn(t *testing.T) {
	for _, x := range []api.PolarTurn{
		turn(1, 0, 1), turn(-1, 0, 1), turn(0, 1, 1), turn(0, -1, 1), turn(3, 4, 5), turn(-3, 4, 5), turn(3, -4, 5), turn(-3, -4, 5), turn(6, 8, 10),
		turn(1000, 0, 1000), turn(0, -1000, 1000), turn(-600, 800, 1000), turn(352, -936, 1000),
	} {
		wantError(t, "a right turn", polar.CheckTurn(x), api.OK)
	}
	for x, errno := range wrongTurns() {
		if e := polar.CheckTurn(x); e != errno {
			t.Errorf("%v: %d; want %d", x, e, errno)
		}
	}
	for r := -1; r <= 30; r++ {
		for p := -31; p <= 31; p++ {
			for q := -31; q <= 31; q++ {
				want := api.OK
				if r < 1 {
					want = api.ErrRange
				} else if p*p+q*q != r*r {
					want = api.ErrShape
				}
				if e := polar.CheckTurn(turn(p, q, r)); e != want {
					t.Errorf("%d %d %d: %d; want %d", p, q, r, e, want)
				}
			}
		}
	}
}

// P5.2: Rotation, of all turns.
func TestRotation(t *testing.T) {
	m, e := polar.Rotation(turn(3, 4, 5))
	wantSame(t, "rotation", m, e, api.JonesMatrix{3, -4, 4, 3}, api.OK)
	for _, x := range turnsUpTo(api.MaxTurnSide) {
		m, e := polar.Rotation(x)
		wantSame(t, "rotation", m, e, api.JonesMatrix{at(x.P, 0), at(-x.Q, 0), at(x.Q, 0), at(x.P, 0)}, api.OK)
		wantPlain(t, "rotation", m[:]...)
	}
	for x, errno := range wrongTurns() {
		m, e := polar.Rotation(x)
		wantSame(t, "rotation of a wrong turn", m, e, api.JonesMatrix{}, errno)
	}
}

// P5.2: Turned.
func TestTurned(t *testing.T) {
	for _, x := range []struct {
		m     api.JonesMatrix
		t     api.PolarTurn
		want  api.JonesMatrix
		errno api.Errno
	}{
		{api.JonesMatrix{1, 2, 3, 4}, turn(1, 0, 1), api.JonesMatrix{1, 2, 3, 4}, api.OK},
		{api.JonesMatrix{1, 2, 3, 4}, turn(0, 1, 1), api.JonesMatrix{4, -3, -2, 1}, api.OK},
		{api.JonesMatrix{1, 2, 3, 4}, turn(0, -1, 1), api.JonesMatrix{4, -3, -2, 1}, api.OK},
		{api.JonesMatrix{1, 2, 3, 4}, turn(-1, 0, 1), api.JonesMatrix{1, 2, 3, 4}, api.OK},
		{api.JonesMatrix{1, 0, 0, 0}, turn(3, 4, 5), api.JonesMatrix{9, 12, 12, 16}, api.OK},
		{api.JonesMatrix{1, 0, 0, 1i}, turn(3, 4, 5), api.JonesMatrix{9 + 16i, 12 - 12i, 12 - 12i, 16 + 9i}, api.OK},
		{api.JonesMatrix{1, 0, 0, 1i}, turn(3, -4, 5), api.JonesMatrix{9 + 16i, -12 + 12i, -12 + 12i, 16 + 9i}, api.OK},
		{api.JonesMatrix{0, 1, -1, 0}, turn(3, 4, 5), api.JonesMatrix{0, 25, -25, 0}, api.OK},
		{api.JonesMatrix{40, 0, 0, 40}, turn(3, 4, 5), api.JonesMatrix{1000, 0, 0, 1000}, api.OK},
		{api.JonesMatrix{40, 0, 0, 41}, turn(3, 4, 5), api.JonesMatrix{}, api.ErrLarge},
		{api.JonesMatrix{1000, 0, 0, 1000i}, turn(1, 0, 1), api.JonesMatrix{1000, 0, 0, 1000i}, api.OK},
		{api.JonesMatrix{}, turn(0, 1000, 1000), api.JonesMatrix{}, api.OK},
		{api.JonesMatrix{1000 + 1000i, 1000 + 1000i, 1000 + 1000i, 1000 + 1000i}, turn(600, 800, 1000), api.JonesMatrix{}, api.ErrLarge},
	} {
		got, e := polar.Turned(x.m, x.t)
		wantSame(t, "turned", got, e, x.want, x.errno)
	}
	r, l := draws(4), turnsUpTo(200)
	fit := 0
	for i := range 20000 {
		m, x := drawnJones(r, api.MaxJones), l[r.IntN(len(l))]
		if i%2 == 0 {
			x = l[r.IntN(24)]
		}
		want, errno := bookTurned(twoOf(m), x).told()
		got, e := polar.Turned(m, x)
		wantSame(t, "turned", got, e, want, errno)
		wantPlain(t, "turned", got[:]...)
		if errno == api.OK {
			fit++
		}
	}
	if fit < 5000 {
		t.Errorf("only %d matrices fit", fit)
	}
}

// P5.2: Polariser, of all turns: too large from where a square is above MaxJones.
func TestPolariser(t *testing.T) {
	for _, x := range []struct {
		t     api.PolarTurn
		want  api.JonesMatrix
		errno api.Errno
	}{
		{turn(3, 4, 5), api.JonesMatrix{9, 12, 12, 16}, api.OK},
		{turn(-3, 4, 5), api.JonesMatrix{9, -12, -12, 16}, api.OK},
		{turn(0, 1, 1), api.JonesMatrix{0, 0, 0, 1}, api.OK},
		{turn(31, 0, 31), api.JonesMatrix{961, 0, 0, 0}, api.OK},
		{turn(32, 0, 32), api.JonesMatrix{}, api.ErrLarge},
		{turn(0, -1000, 1000), api.JonesMatrix{}, api.ErrLarge},
	} {
		got, e := polar.Polariser(x.t)
		wantSame(t, "polariser", got, e, x.want, x.errno)
	}
	for _, x := range turnsUpTo(api.MaxTurnSide) {
		pp, pq, qq := pair{x.P * x.P}, pair{x.P * x.Q}, pair{x.Q * x.Q}
		want, errno := two{{pp, pq}, {pq, qq}}.told()
		got, e := polar.Polariser(x)
		wantSame(t, "polariser", got, e, want, errno)
		wantPlain(t, "polariser", got[:]...)
	}
	for x, errno := range wrongTurns() {
		m, e := polar.Polariser(x)
		wantSame(t, "polariser at a wrong turn", m, e, api.JonesMatrix{}, errno)
	}
}

// P5.2: Plate.
func TestPlate(t *testing.T) {
	for _, x := range []struct {
		phase, t api.PolarTurn
		want     api.JonesMatrix
		errno    api.Errno
	}{
		{turn(0, 1, 1), turn(1, 0, 1), api.JonesMatrix{1, 0, 0, 1i}, api.OK},
		{turn(0, 1, 1), turn(3, 4, 5), api.JonesMatrix{9 + 16i, 12 - 12i, 12 - 12i, 16 + 9i}, api.OK},
		{turn(0, -1, 1), turn(3, 4, 5), api.JonesMatrix{9 - 16i, 12 + 12i, 12 + 12i, 16 - 9i}, api.OK},
		{turn(3, -4, 5), turn(0, 1, 1), api.JonesMatrix{3 - 4i, 0, 0, 5}, api.OK},
		{turn(-1, 0, 1), turn(3, 4, 5), api.JonesMatrix{-7, 24, 24, 7}, api.OK},
		{turn(1, 0, 1), turn(3, 4, 5), api.JonesMatrix{25, 0, 0, 25}, api.OK},
		{turn(1, 0, 1), turn(6, -8, 10), api.JonesMatrix{100, 0, 0, 100}, api.OK},
		{turn(1, 0, 1), turn(31, 0, 31), api.JonesMatrix{961, 0, 0, 961}, api.OK},
		{turn(1, 0, 1), turn(32, 0, 32), api.JonesMatrix{}, api.ErrLarge},
		{turn(1000, 0, 1000), turn(0, 1, 1), api.JonesMatrix{1000, 0, 0, 1000}, api.OK},
		{turn(600, 800, 1000), turn(600, 800, 1000), api.JonesMatrix{}, api.ErrLarge},
	} {
		got, e := polar.Plate(x.phase, x.t)
		wantSame(t, "plate", got, e, x.want, x.errno)
	}
	phases, turns := turnsUpTo(100), turnsUpTo(35)
	for _, phase := range phases {
		for _, x := range turns {
			want, errno := bookTurned(two{{{phase.R}, {}}, {{}, {phase.P, phase.Q}}}, x).told()
			got, e := polar.Plate(phase, x)
			wantSame(t, "plate", got, e, want, errno)
			wantPlain(t, "plate", got[:]...)
		}
	}
}

// P5.2, R1: errors of arguments come in their order, beside zero values.
func TestErrorsOfTurns(t *testing.T) {
	right := api.JonesMatrix{1, 0, 0, 1}
	for x, errno := range wrongTurns() {
		m, e := polar.Turned(right, x)
		wantSame(t, "turned by a wrong turn", m, e, api.JonesMatrix{}, errno)
		m, e = polar.Plate(turn(1, 0, 1), x)
		wantSame(t, "a plate at a wrong turn", m, e, api.JonesMatrix{}, errno)
		for _, other := range []api.PolarTurn{turn(1, 0, 1), {}, turn(1, 1, 1)} {
			m, e = polar.Plate(x, other)
			wantSame(t, "a plate with a wrong phase", m, e, api.JonesMatrix{}, errno)
		}
	}
	for _, x := range wrongMatrices() {
		for _, other := range []api.PolarTurn{turn(1, 0, 1), {}, turn(1, 1, 1)} {
			m, e := polar.Turned(x.m, other)
			wantSame(t, "turned: "+x.name, m, e, api.JonesMatrix{}, x.errno)
		}
	}
}
