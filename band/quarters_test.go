package band_test

import (
	"math"
	"math/big"
	"math/rand/v2"
	"slices"
	"testing"

	"etalon/api"
	"etalon/band"
)

// wrongIndices are what is no index of a quarter wave, and no admittance behind it.
func wrongIndices() map[api.Frac]api.Errno {
	l := map[api.Frac]api.Errno{of(0, 1): api.ErrRange, of(-1, 1): api.ErrRange, of(-100, 99): api.ErrRange}
	for _, f := range formless() {
		l[f] = api.ErrForm
	}
	for _, f := range greatFracs() {
		l[f] = api.ErrRange
	}
	return l
}

// P4.6: QuarterAdmittance.
func TestQuarterAdmittance(t *testing.T) {
	a, b := of(100, 1), of(1, 100)
	for _, x := range []struct {
		name    string
		indices []api.Frac
		on      api.Frac
		want    api.Frac
		errno   api.Errno
	}{
		{"2 on 4", []api.Frac{of(2, 1)}, of(4, 1), of(1, 1), api.OK},
		{"3, 2 on 4", []api.Frac{of(3, 1), of(2, 1)}, of(4, 1), of(9, 1), api.OK},
		{"2, 3 on 4", []api.Frac{of(2, 1), of(3, 1)}, of(4, 1), of(16, 9), api.OK},
		{"none", nil, of(7, 3), of(7, 3), api.OK},
		// 25/16 over 7/5 is 125/112, and 9/4 over this 1008/500.
		{"fractions", []api.Frac{of(3, 2), of(5, 4)}, of(7, 5), of(252, 125), api.OK},
		{"40 of one index", slices.Repeat([]api.Frac{of(3, 2)}, 40), of(7, 5), of(7, 5), api.OK},
		{"41 of them", slices.Repeat([]api.Frac{of(3, 2)}, 41), of(7, 5), api.Frac{}, api.ErrLarge},
		{"41 that are none", make([]api.Frac, 41), of(7, 5), api.Frac{}, api.ErrLarge},
		{"the greatest admittance", []api.Frac{a, b}, of(10, 1), of(1000000000, 1), api.OK},
		{"a greater one", []api.Frac{a, b}, of(11, 1), api.Frac{}, api.ErrLarge},
		{"the least admittance", []api.Frac{b, a}, of(1, 10), of(1, 1000000000), api.OK},
		{"a lesser one", []api.Frac{b, a}, of(1, 11), api.Frac{}, api.ErrLarge},
		{"a greater one on the way", []api.Frac{a, a, b}, of(11, 1), api.Frac{}, api.ErrLarge},
		{"the greatest one on the way", []api.Frac{a, a, b}, of(10, 1), of(1, 100000), api.OK},
	} {
		got, e := band.QuarterAdmittance(x.indices, x.on)
		wantSame(t, x.name, got, e, x.want, x.errno)
	}
	for f, errno := range wrongIndices() {
		got, e := band.QuarterAdmittance([]api.Frac{of(1, 1), f, {}}, of(2, 2))
		wantSame(t, "a wrong index", got, e, api.Frac{}, errno)
		got, e = band.QuarterAdmittance(nil, f)
		wantSame(t, "a wrong admittance", got, e, api.Frac{}, errno)
		got, e = band.QuarterAdmittance([]api.Frac{a, b}, f)
		wantSame(t, "a wrong admittance behind quarter waves", got, e, api.Frac{}, errno)
		got, e = band.QuarterAdmittance([]api.Frac{f, a, b}, of(11, 1))
		wantSame(t, "a wrong index ahead of a great admittance", got, e, api.Frac{}, errno)
	}
}

// drawnIndex returns a fraction of at most 100 above 0.
func drawnIndex(r *rand.Rand, most int) api.Frac {
	f := big.NewRat(int64(1+r.IntN(most)), int64(1+r.IntN(most)))
	return of(int(f.Num().Int64()), int(f.Denom().Int64()))
}

// small returns a fraction of any size, and whether its numbers are at most 10^9.
func small(x *big.Rat) (api.Frac, bool) {
	limit := big.NewInt(1000000000)
	if x.Num().CmpAbs(limit) > 0 || x.Denom().Cmp(limit) > 0 {
		return api.Frac{}, false
	}
	return of(int(x.Num().Int64()), int(x.Denom().Int64())), true
}

// bookQuarters returns the admittance of quarter waves by fractions of any size, or ErrLarge.
func bookQuarters(indices []api.Frac, on api.Frac) (api.Frac, api.Errno) {
	y := rat(on)
	for i := len(indices) - 1; i >= 0; i-- {
		n := rat(indices[i])
		y = new(big.Rat).Quo(new(big.Rat).Mul(n, n), y)
		if _, is := small(y); !is {
			return api.Frac{}, api.ErrLarge
		}
	}
	f, _ := small(y)
	return f, api.OK
}

// P4.6, P4.11: quarter waves of any indices; two of one index change nothing.
func TestQuartersByTheBook(t *testing.T) {
	r := draws(40)
	seen := map[api.Errno]int{}
	for range 20000 {
		most := [3]int{3, 10, 100}[r.IntN(3)]
		var l []api.Frac
		for range r.IntN(7) {
			l = append(l, drawnIndex(r, most))
		}
		on := drawnIndex(r, 100)
		want, errno := bookQuarters(l, on)
		y, e := band.QuarterAdmittance(l, on)
		wantSame(t, "quarter waves", y, e, want, errno)
		seen[e]++
		at, n := r.IntN(len(l)+1), drawnIndex(r, 3)
		if more, errno := band.QuarterAdmittance(slices.Insert(slices.Clone(l), at, n, n), on); errno == api.OK && e == api.OK && more != y {
			t.Fatalf("%v on %v: %v; with two more of %v %v", l, on, y, n, more)
		}
	}
	wantSeen(t, "admittances", seen[api.OK], 5000)
	wantSeen(t, "too large ones", seen[api.ErrLarge], 1000)
}

// P4.6, P4.11: a quarter wave on its square reflects nothing into index 1.
func TestNothingReflected(t *testing.T) {
	for num := 1; num <= 10; num++ {
		for den := 1; den <= 10; den++ {
			if new(big.Int).GCD(nil, nil, big.NewInt(int64(num)), big.NewInt(int64(den))).Int64() > 1 {
				continue
			}
			y, e := band.QuarterAdmittance([]api.Frac{of(num, den)}, of(num*num, den*den))
			wantSame(t, "a quarter wave on its square", y, e, of(1, 1), api.OK)
			back, e := band.ReflectionOf(of(1, 1), y)
			wantSame(t, "what it reflects", back, e, of(0, 1), api.OK)
		}
	}
}

// P4.6: ReflectionOf.
func TestReflectionOf(t *testing.T) {
	unit, none := of(1, 1), api.Frac{}
	for _, x := range []struct {
		name     string
		index, y api.Frac
		want     api.Frac
		errno    api.Errno
	}{
		{"1 and 9", unit, of(9, 1), of(16, 25), api.OK},
		{"9 and 1", of(9, 1), unit, of(16, 25), api.OK},
		{"the same", of(7, 3), of(7, 3), of(0, 1), api.OK},
		{"fractions", of(3, 2), of(7, 5), of(1, 841), api.OK},
		{"a great result", unit, of(63243, 1), of(31621*31621, 31622*31622), api.OK},
		{"a greater one", unit, of(63245, 1), none, api.ErrLarge},
		{"the greatest admittance", unit, of(1000000000, 1), none, api.ErrLarge},
		{"the least admittance", unit, of(1, 1000000000), none, api.ErrLarge},
		{"the greatest numbers", of(100, 99), of(1000000000, 999999999), none, api.ErrLarge},
		{"the greatest numbers the other way round", of(99, 100), of(999999999, 1000000000), none, api.ErrLarge},
		{"great numbers", of(100, 1), of(1000000000, 1), none, api.ErrLarge},
		{"an admittance above", unit, of(1000000001, 1), none, api.ErrRange},
		{"an admittance beneath", unit, of(1, 1000000001), none, api.ErrRange},
		{"an admittance of 0", unit, of(0, 1), none, api.ErrRange},
		{"an admittance below 0", unit, of(-9, 1), none, api.ErrRange},
		{"an index of 0", of(0, 1), unit, none, api.ErrRange},
		{"an index below 0", of(-1, 1), unit, none, api.ErrRange},
		{"an index of 101", of(101, 1), unit, none, api.ErrRange},
		{"an index of 1 / 101", of(1, 101), unit, none, api.ErrRange},
		{"an admittance of 101", unit, of(101, 1), of(2500, 2601), api.OK},
		{"the greatest index", of(math.MaxInt, 1), unit, none, api.ErrRange},
		{"the least admittance of all", unit, of(math.MinInt, 1), none, api.ErrRange},
		{"the form of the admittance ahead of the range of the index", of(101, 1), of(2, 2), none, api.ErrForm},
		{"the form of the admittance ahead of an index of 0", of(0, 1), of(0, 0), none, api.ErrForm},
		{"the form of the index ahead of the range of the admittance", of(2, 2), of(0, 1), none, api.ErrForm},
	} {
		got, e := band.ReflectionOf(x.index, x.y)
		wantSame(t, x.name, got, e, x.want, x.errno)
	}
	for _, f := range formless() {
		got, e := band.ReflectionOf(f, unit)
		wantSame(t, "the form of an index", got, e, none, api.ErrForm)
		got, e = band.ReflectionOf(unit, f)
		wantSame(t, "the form of an admittance", got, e, none, api.ErrForm)
		got, e = band.ReflectionOf(f, f)
		wantSame(t, "the form of both", got, e, none, api.ErrForm)
	}
}

// P4.6: reflections of any admittances.
func TestReflectionsByTheBook(t *testing.T) {
	r := draws(41)
	seen := map[api.Errno]int{}
	for range 20000 {
		index, y := drawnIndex(r, 100), drawnIndex(r, 1<<(1+r.IntN(29)))
		root := new(big.Rat).Quo(new(big.Rat).Sub(rat(index), rat(y)), new(big.Rat).Add(rat(index), rat(y)))
		want, is := small(new(big.Rat).Mul(root, root))
		errno := api.OK
		if !is {
			errno = api.ErrLarge
		}
		got, e := band.ReflectionOf(index, y)
		wantSame(t, "a reflection", got, e, want, errno)
		seen[e]++
	}
	wantSeen(t, "reflections", seen[api.OK], 3000)
	wantSeen(t, "too large ones", seen[api.ErrLarge], 3000)
}
