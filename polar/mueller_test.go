package polar_test

import (
	"math"
	"math/big"
	"testing"

	"etalon/api"
	"etalon/polar"
)

// ofMueller is a function of a Mueller matrix; it returns its error, and whether the results beside it are zero values.
// most is how great the numbers of the matrix may be without ErrLarge.
type ofMueller struct {
	name string
	most int
	call func(m api.Mueller) (api.Errno, bool)
}

func told[T comparable](got T, e api.Errno) (api.Errno, bool) {
	var none T
	return e, got == none
}

// witnessOf returns Witness as two results.
func witnessOf(m api.Mueller) (struct {
	v     [4]complex128
	value int
}, api.Errno) {
	v, value, e := polar.Witness(m)
	return struct {
		v     [4]complex128
		value int
	}{v, value}, e
}

// functionsOfMueller returns all functions of a Mueller matrix; further arguments are wrong where they can be, so that the
// errors of the matrix must come first.
func functionsOfMueller() []ofMueller {
	wrong := api.PolarSquares{Times: -1}
	return []ofMueller{
		{"CheckMueller", most, func(m api.Mueller) (api.Errno, bool) { return polar.CheckMueller(m), true }},
		{"Through", most, func(m api.Mueller) (api.Errno, bool) { return told(polar.Through(m, api.Stokes{-1})) }},
		{"Through, out of range", most, func(m api.Mueller) (api.Errno, bool) { return told(polar.Through(m, api.Stokes{most + 1})) }},
		{"Joined", most, func(m api.Mueller) (api.Errno, bool) { return told(polar.Joined(m, api.Mueller{15: 1})) }},
		{"Joined behind", most, func(m api.Mueller) (api.Errno, bool) { return told(polar.Joined(api.Mueller{15: 1}, m)) }},
		{"Joined with itself", most, func(m api.Mueller) (api.Errno, bool) { return told(polar.Joined(m, m)) }},
		{"JonesOf", api.MaxPure, func(m api.Mueller) (api.Errno, bool) { return told(polar.JonesOf(m)) }},
		{"Coherency", most, func(m api.Mueller) (api.Errno, bool) { return told(polar.Coherency(m)) }},
		{"Physical", api.MaxPhysical, func(m api.Mueller) (api.Errno, bool) { return told(polar.Physical(m)) }},
		{"Witness", api.MaxPhysical, func(m api.Mueller) (api.Errno, bool) { return told(witnessOf(m)) }},
		{"CheckWitness", api.MaxPhysical, func(m api.Mueller) (api.Errno, bool) { return told(polar.CheckWitness(m, [4]complex128{0.5})) }},
		{"Squares", api.MaxPhysical, func(m api.Mueller) (api.Errno, bool) {
			x, e := polar.Squares(m)
			return e, x.Times == 0 && x.Terms == nil
		}},
		{"CheckSquares", api.MaxPhysical, func(m api.Mueller) (api.Errno, bool) { return told(polar.CheckSquares(m, wrong)) }},
		{"PassiveWithin", most, func(m api.Mueller) (api.Errno, bool) { return told(polar.PassiveWithin(m, -1)) }},
		{"Depolarised", api.MaxPure, func(m api.Mueller) (api.Errno, bool) { return told(polar.Depolarised(m)) }},
	}
}

// P5.4, P5.5, R1: errors of Mueller matrices come first, each number being asked for ErrRange ahead of ErrLarge.
func TestErrorsOfMuellers(t *testing.T) {
	for _, f := range functionsOfMueller() {
		for i := range 16 {
			for _, n := range []int{most + 1, -most - 1, math.MaxInt, math.MinInt, math.MinInt + 1, 1 << 32} {
				m := diagonal(1, 1, 1, 1)
				m[i] = n
				if e, none := f.call(m); e != api.ErrRange || !none {
					t.Errorf("%s with %d: %d, %v", f.name, n, e, none)
				}
				// A number that is too large ahead of it, or behind.
				m[(i+5)%16] = f.most + 1
				if e, none := f.call(m); e != api.ErrRange || !none {
					t.Errorf("%s with %d and %d: %d, %v", f.name, n, f.most+1, e, none)
				}
			}
			if f.most == most {
				continue
			}
			for _, n := range []int{f.most + 1, -f.most - 1, most, -most} {
				m := diagonal(1, 1, 1, 1)
				m[i] = n
				if e, none := f.call(m); e != api.ErrLarge || !none {
					t.Errorf("%s with %d: %d, %v", f.name, n, e, none)
				}
			}
			for _, n := range []int{f.most, -f.most} {
				m := diagonal(1, 1, 1, 1)
				m[i] = n
				if e, _ := f.call(m); e == api.ErrLarge && f.name != "Depolarised" {
					t.Errorf("%s with %d: %d", f.name, n, e)
				}
			}
		}
	}
	m := api.Mueller{most, -most, most, -most, most, -most, most, -most, most, -most, most, -most, most, -most, most, -most}
	wantError(t, "a right matrix", polar.CheckMueller(m), api.OK)
	wantError(t, "0", polar.CheckMueller(api.Mueller{}), api.OK)
}

// P5.4: MuellerOf.
func TestMuellerOf(t *testing.T) {
	for _, x := range []struct {
		j    api.JonesMatrix
		want api.Mueller
	}{
		{api.JonesMatrix{}, api.Mueller{}},
		{api.JonesMatrix{1, 0, 0, 1}, diagonal(2, 2, 2, 2)},
		{api.JonesMatrix{1i, 0, 0, 1i}, diagonal(2, 2, 2, 2)},
		{api.JonesMatrix{1, 0, 0, 0}, api.Mueller{0: 1, 1: 1, 4: 1, 5: 1}},
		{api.JonesMatrix{0, 0, 0, 1}, api.Mueller{0: 1, 1: -1, 4: -1, 5: 1}},
		{api.JonesMatrix{1, 0, 0, -1}, diagonal(2, 2, -2, -2)},
		{api.JonesMatrix{0, 1, 1, 0}, diagonal(2, -2, 2, -2)},
		// A quarter-wave plate turns what is at 45 degrees into what goes round.
		{api.JonesMatrix{1, 0, 0, 1i}, api.Mueller{0: 2, 5: 2, 11: -2, 14: 2}},
		{api.JonesMatrix{3, -4, 4, 3}, api.Mueller{0: 50, 5: -14, 6: -48, 9: 48, 10: -14, 15: 50}},
		{api.JonesMatrix{1000 + 1000i, 1000 + 1000i, 1000 + 1000i, 1000 + 1000i}, api.Mueller{0: 8000000, 2: 8000000, 8: 8000000, 10: 8000000}},
	} {
		got, e := polar.MuellerOf(x.j)
		wantSame(t, "Mueller matrix", got, e, x.want, api.OK)
	}
	for _, x := range wrongMatrices() {
		m, e := polar.MuellerOf(x.m)
		wantSame(t, "Mueller matrix: "+x.name, m, e, api.Mueller{}, x.errno)
	}
	r := draws(20)
	for range 5000 {
		j := drawnJones(r, api.MaxJones)
		got, e := polar.MuellerOf(j)
		wantSame(t, "Mueller matrix", got, e, bookMueller(j), api.OK)
	}
}

// bookProduct returns the sums of products of rows and columns, and whether none is above MaxStokes.
func bookProduct(rows []int, columns int, numbers []int) ([]int, bool) {
	var out []int
	fits := true
	for i := range 4 {
		for j := range columns {
			sum := new(big.Int)
			for k := range 4 {
				sum.Add(sum, new(big.Int).Mul(big.NewInt(int64(rows[4*i+k])), big.NewInt(int64(numbers[columns*k+j]))))
			}
			fits = fits && sum.CmpAbs(big.NewInt(most)) <= 0
			out = append(out, int(sum.Int64()))
		}
	}
	return out, fits
}

// P5.4: Through.
func TestThrough(t *testing.T) {
	for _, x := range []struct {
		m     api.Mueller
		s     api.Stokes
		want  api.Stokes
		errno api.Errno
	}{
		{diagonal(2, 2, 2, 2), api.Stokes{5, 3, 0, -4}, api.Stokes{10, 6, 0, -8}, api.OK},
		{api.Mueller{1, 2, 3, 4, 5, 6, 7, 8, 9, 10, 11, 12, 13, 14, 15, 16}, api.Stokes{9, 1, 2, 3}, api.Stokes{29, 89, 149, 209}, api.OK},
		// What comes through need not be right.
		{diagonal(1, 1, 1, 2), api.Stokes{1, 0, 0, 1}, api.Stokes{1, 0, 0, 2}, api.OK},
		{diagonal(-1, 0, 0, 0), api.Stokes{1, 0, 0, 0}, api.Stokes{-1, 0, 0, 0}, api.OK},
		{diagonal(most, 0, 0, 0), api.Stokes{1, 0, 0, 1}, api.Stokes{most, 0, 0, 0}, api.OK},
		{api.Mueller{12: 1 - most, 15: -1}, api.Stokes{1, 0, 0, 1}, api.Stokes{0, 0, 0, -most}, api.OK},
		{api.Mueller{12: -most, 15: -1}, api.Stokes{1, 0, 0, 1}, api.Stokes{}, api.ErrLarge},
		{api.Mueller{most, 1}, api.Stokes{1, 1, 0, 0}, api.Stokes{}, api.ErrLarge},
		{api.Mueller{most, most}, api.Stokes{most, -most, 0, 0}, api.Stokes{}, api.OK},
		{api.Mueller{most, most, most, most, 12: -most, -most, -most, -most}, api.Stokes{most, 577350269, 577350269, 577350269}, api.Stokes{}, api.ErrLarge},
	} {
		got, e := polar.Through(x.m, x.s)
		wantSame(t, "through", got, e, x.want, x.errno)
	}
	for s, errno := range wrongStokes() {
		got, e := polar.Through(diagonal(1, 1, 1, 1), s)
		wantSame(t, "a wrong vector through", got, e, api.Stokes{}, errno)
	}
	r, large := draws(21), 0
	for range 10000 {
		size := drawnSize(r, most/2)
		m, s := drawnMueller(r, most), api.Stokes{2 * size, drawn(r, size), drawn(r, size), drawn(r, size)}
		want, errno := api.Stokes{}, api.ErrLarge
		if l, fits := bookProduct(m[:], 1, s[:]); fits {
			want, errno = api.Stokes(l), api.OK
		} else {
			large++
		}
		got, e := polar.Through(m, s)
		wantSame(t, "through", got, e, want, errno)
	}
	if large < 1000 || large > 9000 {
		t.Errorf("%d vectors are too large", large)
	}
}

// P5.4: Joined.
func TestJoined(t *testing.T) {
	count := api.Mueller{1, 2, 3, 4, 5, 6, 7, 8, 9, 10, 11, 12, 13, 14, 15, 16}
	for _, x := range []struct {
		a, b, want api.Mueller
		errno      api.Errno
	}{
		{diagonal(2, 2, 2, 2), diagonal(1, 2, 3, 4), diagonal(2, 4, 6, 8), api.OK},
		{count, diagonal(1, 0, 0, -1), api.Mueller{1, 0, 0, -4, 5, 0, 0, -8, 9, 0, 0, -12, 13, 0, 0, -16}, api.OK},
		{diagonal(1, 0, 0, -1), count, api.Mueller{1, 2, 3, 4, 12: -13, -14, -15, -16}, api.OK},
		{count, count, api.Mueller{90, 100, 110, 120, 202, 228, 254, 280, 314, 356, 398, 440, 426, 484, 542, 600}, api.OK},
		{api.Mueller{12: -most}, api.Mueller{3: 1}, api.Mueller{15: -most}, api.OK},
		{api.Mueller{12: -most, 13: 1}, api.Mueller{3: 1, 7: -1}, api.Mueller{}, api.ErrLarge},
		{api.Mueller{most, most, most, most}, api.Mueller{0: most, 4: most, 8: most, 12: most}, api.Mueller{}, api.ErrLarge},
		{api.Mueller{most, most}, api.Mueller{0: most, 4: -most}, api.Mueller{}, api.OK},
	} {
		got, e := polar.Joined(x.a, x.b)
		wantSame(t, "joined", got, e, x.want, x.errno)
	}
	r := draws(22)
	for range 10000 {
		a, b := drawnMueller(r, most), drawnMueller(r, most)
		want, errno := api.Mueller{}, api.ErrLarge
		if l, fits := bookProduct(a[:], 4, b[:]); fits {
			want, errno = api.Mueller(l), api.OK
		}
		got, e := polar.Joined(a, b)
		wantSame(t, "joined", got, e, want, errno)
	}
}

// P5.4: Depolarised.
func TestDepolarised(t *testing.T) {
	for _, x := range []struct {
		m     api.Mueller
		want  api.Frac
		errno api.Errno
	}{
		{diagonal(1, 0, 0, 0), api.Frac{Num: 0, Den: 1}, api.OK},
		{diagonal(1, 1, 1, 1), api.Frac{Num: 1, Den: 1}, api.OK},
		{diagonal(-1, 1, 1, 1), api.Frac{Num: 1, Den: 1}, api.OK},
		{diagonal(2, 1, 0, -1), api.Frac{Num: 1, Den: 6}, api.OK},
		{api.Mueller{1, 2, 3, 4, 5, 6, 7, 8, 9, 10, 11, 12, 13, 14, 15, 16}, api.Frac{Num: 1495, Den: 3}, api.OK},
		{api.Mueller{15: 1}, api.Frac{}, api.ErrZero},
		{api.Mueller{}, api.Frac{}, api.ErrZero},
		{api.Mueller{0: 18257, 3: 1}, api.Frac{Num: 1, Den: 3 * 18257 * 18257}, api.OK},
		{api.Mueller{0: 18258, 3: 1}, api.Frac{}, api.ErrLarge},
		{api.Mueller{0: 1, 3: 54771}, api.Frac{Num: 999954147, Den: 1}, api.OK},
		{api.Mueller{0: 1, 3: 54774}, api.Frac{}, api.ErrLarge},
		{api.Mueller{0: api.MaxPure, 15: -api.MaxPure}, api.Frac{Num: 1, Den: 3}, api.OK},
		{api.Mueller{0: -api.MaxPure, 15: 1}, api.Frac{}, api.ErrLarge},
	} {
		got, e := polar.Depolarised(x.m)
		wantSame(t, "depolarised", got, e, x.want, x.errno)
	}
	r := draws(23)
	for range 10000 {
		m := drawnMueller(r, api.MaxPure)
		want, errno := api.Frac{}, api.ErrZero
		if m[0] != 0 {
			want, errno = bookFrac(sumOfSquares(m[1:]), new(big.Int).Mul(big.NewInt(3), sumOfSquares(m[:1])))
		}
		got, e := polar.Depolarised(m)
		wantSame(t, "depolarised", got, e, want, errno)
	}
}

// P5.4: PassiveWithin.
func TestPassiveWithin(t *testing.T) {
	for _, x := range []struct {
		m     api.Mueller
		scale int
		want  bool
		errno api.Errno
	}{
		{diagonal(2, 2, 2, 2), 2, true, api.OK},
		{diagonal(2, 2, 2, 2), 1, false, api.OK},
		// Just the first row is asked.
		{api.Mueller{4: 9, 8: 9, 12: 9, 15: 9}, 0, true, api.OK},
		{api.Mueller{}, 0, true, api.OK},
		{api.Mueller{1, 3, 0, -4}, 6, true, api.OK},
		{api.Mueller{1, 3, 0, -4}, 5, false, api.OK},
		{api.Mueller{1, 1, 1, 0}, 2, false, api.OK},
		{api.Mueller{1, 1, 1, 0}, 3, true, api.OK},
		{api.Mueller{1, 0, 0, 1}, 2, true, api.OK},
		{api.Mueller{1, 0, 0, 1}, 1, false, api.OK},
		// What is below 0 leaves more room; its square is none where there is no room.
		{api.Mueller{-5, 3, 4, 0}, 0, true, api.OK},
		{api.Mueller{-5, 3, 4, 1}, 0, false, api.OK},
		{api.Mueller{5, 3, 4, 0}, 0, false, api.OK},
		{api.Mueller{5, 0, 0, 0}, 4, false, api.OK},
		{api.Mueller{most, 0, 0, 0}, most, true, api.OK},
		{api.Mueller{most, 0, 0, 1}, most, false, api.OK},
		{api.Mueller{-most, most, most, most}, most, true, api.OK},
		{api.Mueller{-most, most, most, most}, 732050808, true, api.OK},
		{api.Mueller{-most, most, most, most}, 732050807, false, api.OK},
		{api.Mueller{most, most, most, most}, most, false, api.OK},
		{api.Mueller{1}, -1, false, api.ErrRange},
		{api.Mueller{1}, most + 1, false, api.ErrRange},
		{api.Mueller{1}, math.MaxInt, false, api.ErrRange},
		{api.Mueller{1}, math.MinInt, false, api.ErrRange},
		{api.Mueller{-1}, math.MaxInt, false, api.ErrRange},
	} {
		got, e := polar.PassiveWithin(x.m, x.scale)
		wantSame(t, "passive", got, e, x.want, x.errno)
	}
	r := draws(24)
	for range 20000 {
		m, scale := drawnMueller(r, most), r.IntN(drawnSize(r, most)+1)
		if r.IntN(2) == 0 { // Just about the edge.
			root := new(big.Int).Sqrt(sumOfSquares(m[1:4]))
			scale = max(0, min(most, m[0]+int(root.Int64())+drawn(r, 1)))
		}
		room := big.NewInt(int64(scale - m[0]))
		want := room.Sign() >= 0 && sumOfSquares(m[1:4]).Cmp(room.Mul(room, room)) <= 0
		got, e := polar.PassiveWithin(m, scale)
		wantSame(t, "passive", got, e, want, api.OK)
	}
}

// P5.4: JonesOf.
func TestJonesOf(t *testing.T) {
	pure := api.MaxPure
	for _, x := range []struct {
		name  string
		m     api.Mueller
		want  api.JonesMatrix
		errno api.Errno
	}{
		{"the unit matrix", diagonal(1, 1, 1, 1), api.JonesMatrix{1, 0, 0, 1}, api.OK},
		{"many times the unit matrix", diagonal(pure, pure, pure, pure), api.JonesMatrix{1, 0, 0, 1}, api.OK},
		{"a polariser", api.Mueller{0: 1, 1: 1, 4: 1, 5: 1}, api.JonesMatrix{1, 0, 0, 0}, api.OK},
		{"the last number alone", api.Mueller{0: 3, 1: -3, 4: -3, 5: 3}, api.JonesMatrix{0, 0, 0, 1}, api.OK},
		{"a plate", api.Mueller{0: 2, 5: 2, 11: -2, 14: 2}, api.JonesMatrix{1, 0, 0, 1i}, api.OK},
		{"a rotation", diagonal(5, 5, 5, 5), api.JonesMatrix{1, 0, 0, 1}, api.OK},
		{"0", api.Mueller{}, api.JonesMatrix{}, api.ErrNone},
		{"a matrix below 0", diagonal(-1, -1, -1, -1), api.JonesMatrix{}, api.ErrNone},
		{"a matrix that no sample has", diagonal(1, 1, 1, -1), api.JonesMatrix{}, api.ErrNone},
		{"a diagonal of 0", api.Mueller{10: 1}, api.JonesMatrix{}, api.ErrNone},
		{"what depolarises", diagonal(1, 0, 0, 0), api.JonesMatrix{}, api.ErrNone},
		{"what depolarises a little", diagonal(pure, pure-1, pure-1, pure-1), api.JonesMatrix{}, api.ErrNone},
		{"a number that is a little off", plus(diagonal(1000, 1000, 1000, 1000), api.Mueller{7: 1}), api.JonesMatrix{}, api.ErrNone},
	} {
		got, e := polar.JonesOf(x.m)
		wantSame(t, x.name, got, e, x.want, x.errno)
	}
	r, seen := draws(25), map[api.Errno]int{}
	for range 5000 {
		m := drawnTested(t, r)
		if r.IntN(2) == 0 {
			m = muellerOf(t, drawnJones(r, 300))
		}
		got, e := polar.JonesOf(m)
		want, errno := bookJones(m)
		wantSame(t, "Jones matrix", got, e, want, errno)
		seen[e]++
	}
	for _, errno := range []api.Errno{api.OK, api.ErrNone, api.ErrLarge} {
		if seen[errno] < 200 {
			t.Errorf("only %d times the error %d", seen[errno], errno)
		}
	}
}

// P5.4: a pure matrix whose Jones matrix has a part above MaxJones is ErrLarge, one whose greatest part is MaxJones is not.
func TestJonesOfLarge(t *testing.T) {
	for _, x := range []struct {
		j     api.JonesMatrix
		want  api.JonesMatrix
		errno api.Errno
	}{
		{api.JonesMatrix{1, 1000, 0, 0}, api.JonesMatrix{1, 1000, 0, 0}, api.OK},
		{api.JonesMatrix{1000, 0, 0, 999i}, api.JonesMatrix{1000, 0, 0, 999i}, api.OK},
		// The first number becomes real: 2 + i times its conjugate is 5.
		{api.JonesMatrix{2 + 1i, 200, 0, 0}, api.JonesMatrix{1, 80 - 40i, 0, 0}, api.OK},
		{api.JonesMatrix{2 + 1i, 401, 0, 0}, api.JonesMatrix{5, 802 - 401i, 0, 0}, api.OK},
		{api.JonesMatrix{2 + 1i, 501, 0, 0}, api.JonesMatrix{}, api.ErrLarge},
		{api.JonesMatrix{2 + 1i, 1i, 0, 500}, api.JonesMatrix{5, 1 + 2i, 0, 1000 - 500i}, api.OK},
		{api.JonesMatrix{2 + 1i, 1i, 0, -501i}, api.JonesMatrix{}, api.ErrLarge},
		{api.JonesMatrix{0, 31 + 7i, 11, 0}, api.JonesMatrix{0, 1010, 341 - 77i, 0}, api.ErrLarge},
		{api.JonesMatrix{0, 30 + 10i, 11, 0}, api.JonesMatrix{0, 100, 33 - 11i, 0}, api.OK},
	} {
		if x.errno != api.OK {
			x.want = api.JonesMatrix{}
		}
		got, e := polar.JonesOf(muellerOf(t, x.j))
		wantSame(t, "Jones matrix", got, e, x.want, x.errno)
		wantPlain(t, "Jones matrix", got[:]...)
	}
}
