package glass_test

import (
	"math"
	"math/big"
	"testing"

	"etalon/api"
	"etalon/glass"
)

// sample is the table of the chapter's examples.
func sample() api.Glass { return table([3]int{5000, 15000, 100}, [3]int{6000, 14000, 300}) }

// bent has rows of which those in the middle are the greatest and the least ones.
func bent() api.Glass {
	return table([3]int{1000, 15000, 7}, [3]int{1003, 20001, 0}, [3]int{1010, 10000, 80000}, [3]int{200000, 16000, 5})
}

// exactAt finds index and loss once more, as fractions, and the group index (none of a table with one row).
func exactAt(g api.Glass, wave int) (index, loss, group *big.Rat) {
	w := frac(wave)
	if g.Kind == api.GlassCauchy {
		added := over(frac(g.Cauchy[1]*1000000), product(w, w))
		slope := over(product(frac(-2), added), w)
		index = sum(frac(g.Cauchy[0]), added)
		return index, frac(0), less(index, product(w, slope))
	}
	if len(g.Waves) == 1 {
		return frac(int(g.Index[0])), frac(int(g.Loss[0])), nil
	}
	row := 0
	for i, x := range g.Waves[:len(g.Waves)-1] {
		if x <= wave {
			row = i
		}
	}
	step := frac(g.Waves[row+1] - g.Waves[row])
	along := func(numbers []float32) (number, slope *big.Rat) {
		slope = over(frac(int(numbers[row+1])-int(numbers[row])), step)
		return sum(frac(int(numbers[row])), product(slope, frac(wave-g.Waves[row]))), slope
	}
	index, slope := along(g.Index)
	loss, _ = along(g.Loss)
	return index, loss, less(index, product(w, slope))
}

// P2.2: At.
func TestAt(t *testing.T) {
	minus := sample()
	minus.Loss[1] = float32(minusZero)
	for _, x := range []struct {
		name  string
		g     api.Glass
		wave  int
		want  [2]int
		errno api.Errno
	}{
		{"between", sample(), 5250, [2]int{14750, 150}, api.OK},
		{"rounded", sample(), 5003, [2]int{14997, 101}, api.OK},
		{"at the first row", sample(), 5000, [2]int{15000, 100}, api.OK},
		{"at the last row", sample(), 6000, [2]int{14000, 300}, api.OK},
		{"below", sample(), 4999, [2]int{}, api.ErrNone},
		{"above", sample(), 6001, [2]int{}, api.ErrNone},
		{"too short", sample(), 999, [2]int{}, api.ErrRange},
		{"too long", sample(), 200001, [2]int{}, api.ErrRange},
		{"the least", sample(), math.MinInt, [2]int{}, api.ErrRange},
		{"the greatest", sample(), math.MaxInt, [2]int{}, api.ErrRange},
		{"a loss of -0", minus, 6000, [2]int{14000, 0}, api.OK},
		{"next to a loss of -0", minus, 5500, [2]int{14500, 50}, api.OK},
		{"halves up", table([3]int{5000, 10000, 0}, [3]int{5002, 10001, 1}), 5001, [2]int{10001, 1}, api.OK},
		{"halves up, falling", table([3]int{5000, 10001, 1}, [3]int{5002, 10000, 0}), 5001, [2]int{10001, 1}, api.OK},
		{"a third", table([3]int{5000, 10000, 0}, [3]int{5003, 10001, 1}), 5001, [2]int{10000, 0}, api.OK},
		{"two thirds", table([3]int{5000, 10000, 0}, [3]int{5003, 10001, 1}), 5002, [2]int{10001, 1}, api.OK},
		{"at a row in the middle", bent(), 1010, [2]int{10000, 80000}, api.OK},
		{"the least wavelength", bent(), 1000, [2]int{15000, 7}, api.OK},
		{"the greatest wavelength", bent(), 200000, [2]int{16000, 5}, api.OK},
		{"one row", table([3]int{5000, 15000, 9}), 5000, [2]int{15000, 9}, api.OK},
		{"below one row", table([3]int{5000, 15000, 9}), 4999, [2]int{}, api.ErrNone},
		{"above one row", table([3]int{5000, 15000, 9}), 5001, [2]int{}, api.ErrNone},
		{"a formula", formula(14500, 400), 2000, [2]int{14600, 0}, api.OK},
		{"a formula, rounded", formula(14500, 400), 3000, [2]int{14544, 0}, api.OK},
		{"a formula, halves up", formula(14500, 2), 2000, [2]int{14501, 0}, api.OK},
		{"a formula at the least wavelength", formula(60000, 20000), 1000, [2]int{80000, 0}, api.OK},
		{"a formula at the greatest wavelength", formula(60000, 20000), 200000, [2]int{60001, 0}, api.OK},
		{"a formula, too short", formula(14500, 400), 999, [2]int{}, api.ErrRange},
		{"a formula, too long", formula(14500, 400), 200001, [2]int{}, api.ErrRange},
	} {
		got, e := glass.At(x.g, x.wave)
		wantSame(t, x.name, got, e, x.want, x.errno)
	}
}

// R1: errors of the material stand ahead of those of the wavelength.
func TestErrorsOfGlasses(t *testing.T) {
	for _, x := range wrongGlasses() {
		for _, wave := range []int{5000, 0, math.MaxInt} {
			for _, f := range onesOfGlasses(wave) {
				if e, none := f.call(x.g); e != x.errno || !none {
					t.Errorf("%s of %s: %d, %v; want %d", f.name, x.name, e, none, x.errno)
				}
			}
		}
		if e, none := told(glass.Abbe(x.g)); e != x.errno || !none {
			t.Errorf("Abbe of %s: %d, %v; want %d", x.name, e, none, x.errno)
		}
	}
	for wave, errno := range map[int]api.Errno{999: api.ErrRange, 200001: api.ErrRange, 4999: api.ErrNone, 6001: api.ErrNone, math.MinInt: api.ErrRange} {
		for _, f := range onesOfGlasses(wave) {
			if e, none := f.call(sample()); e != errno || !none {
				t.Errorf("%s at %d: %d, %v; want %d", f.name, wave, e, none, errno)
			}
		}
	}
}

// P2.2: Between.
func TestBetween(t *testing.T) {
	one := table([3]int{5000, 15000, 9})
	for _, x := range []struct {
		name  string
		g     api.Glass
		waves api.Range
		want  [2]api.Range
		errno api.Errno
	}{
		{"the example", sample(), span(5000, 5250), [2]api.Range{span(14750, 15000), span(100, 150)}, api.OK},
		{"all", sample(), span(5000, 6000), [2]api.Range{span(14000, 15000), span(100, 300)}, api.OK},
		{"rounded", sample(), span(5003, 5007), [2]api.Range{span(14993, 14997), span(100, 102)}, api.OK},
		{"a single wavelength", sample(), span(5003, 5003), [2]api.Range{span(14997, 14997), span(100, 101)}, api.OK},
		{"over rows", bent(), span(1001, 1011), [2]api.Range{span(10000, 20001), span(0, 80000)}, api.OK},
		{"over the highest row", bent(), span(1002, 1004), [2]api.Range{span(18334, 20001), span(0, 11429)}, api.OK},
		{"behind the highest row", bent(), span(1004, 1009), [2]api.Range{span(11428, 18573), span(11428, 68572)}, api.OK},
		{"to the highest row", bent(), span(1002, 1003), [2]api.Range{span(18334, 20001), span(0, 3)}, api.OK},
		{"from the lowest row", bent(), span(1010, 1010), [2]api.Range{span(10000, 10000), span(80000, 80000)}, api.OK},
		{"one row", one, span(5000, 5000), [2]api.Range{span(15000, 15000), span(9, 9)}, api.OK},
		{"a formula", formula(14500, 400), span(2000, 3000), [2]api.Range{span(14544, 14600), {}}, api.OK},
		{"a formula, rounded", formula(14500, 400), span(3000, 3000), [2]api.Range{span(14544, 14545), {}}, api.OK},
		{"a formula, all", formula(60000, 20000), span(1000, 200000), [2]api.Range{span(60000, 80000), {}}, api.OK},
		{"too short", sample(), span(999, 5000), [2]api.Range{}, api.ErrRange},
		{"too long", sample(), span(5000, 200001), [2]api.Range{}, api.ErrRange},
		{"too long ahead of none", sample(), span(4999, 200001), [2]api.Range{}, api.ErrRange},
		{"too long ahead of the order", sample(), span(200001, 5000), [2]api.Range{}, api.ErrRange},
		{"too short at the end", sample(), span(5000, 999), [2]api.Range{}, api.ErrRange},
		{"the greatest ints", sample(), span(math.MinInt, math.MaxInt), [2]api.Range{}, api.ErrRange},
		{"turned", sample(), span(5001, 5000), [2]api.Range{}, api.ErrOrder},
		{"turned ahead of none", sample(), span(7000, 4000), [2]api.Range{}, api.ErrOrder},
		{"from outside", sample(), span(4999, 5000), [2]api.Range{}, api.ErrNone},
		{"to outside", sample(), span(6000, 6001), [2]api.Range{}, api.ErrNone},
		{"around", sample(), span(4999, 6001), [2]api.Range{}, api.ErrNone},
		{"outside", sample(), span(7000, 7000), [2]api.Range{}, api.ErrNone},
		{"beyond one row", one, span(5000, 5001), [2]api.Range{}, api.ErrNone},
		{"a formula, turned", formula(14500, 400), span(3000, 2000), [2]api.Range{}, api.ErrOrder},
	} {
		got, e := glass.Between(x.g, x.waves)
		wantSame(t, x.name, got, e, x.want, x.errno)
	}
	for _, x := range wrongGlasses() {
		got, e := glass.Between(x.g, span(math.MaxInt, math.MinInt))
		wantSame(t, x.name, got, e, [2]api.Range{}, x.errno)
	}
}

// P2.2: Permittivity.
func TestPermittivity(t *testing.T) {
	single := func(index, loss int) api.Glass { return table([3]int{5000, index, loss}) }
	for _, x := range []struct {
		name  string
		g     api.Glass
		want  api.Ball
		errno api.Errno
	}{
		{"without loss", single(20000, 0), at(4194304, 0, 0), api.OK},
		{"with loss", single(10000, 5000), at(786432, one, 0), api.OK},
		{"below 0", single(5000, 10000), at(-786432, one, 0), api.OK},
		{"no real part", single(10000, 10000), at(0, 2*one, 0), api.OK},
		// 1.5001 1.5001 One is 2359610.59.., and so on: both parts are rounded, or one of them.
		{"rounded", single(15001, 0), at(2359611, 0, 1), api.OK},
		{"rounded down", single(15000, 1), at(2359296, 315, 1), api.OK},
		{"rounded below 0", single(5000, 15001), at(-2097467, 1572969, 1), api.OK},
		// 0.64 and 0.48 have 25 in the denominator: -0.28 One is -293601.28.
		{"rounded up to less", single(6000, 8000), at(-293601, 1006633, 1), api.OK},
		{"the greatest", single(80000, 0), at(most, 0, 0), api.OK},
		{"the least", single(5000, 80000), at(-66846720, 8388608, 0), api.OK},
		{"the greatest with a loss", single(80000, 40000), at(50331648, most, 0), api.OK},
		{"a loss beyond", single(80000, 40001), api.Ball{}, api.ErrLarge},
		{"the greatest of both", single(80000, 80000), api.Ball{}, api.ErrLarge},
		{"a formula", formula(20000, 0), at(4194304, 0, 0), api.OK},
		// At 5000 the index is 20000.4, rounded ahead of its square; 2.0001 2.0001 One is 4194723.4..
		{"a formula, rounded", formula(20000, 10), at(4194304, 0, 0), api.OK},
		{"a formula, rounded up", formula(20000, 15), at(4194723, 0, 1), api.OK},
	} {
		got, e := glass.Permittivity(x.g, 5000)
		wantSame(t, x.name, got, e, x.want, x.errno)
	}
}

// P2.2: the parts of a permittivity are rounded, and told to be so.
func TestPermittivityExact(t *testing.T) {
	r := draws(1)
	for range 5000 {
		g := drawnGlass(r)
		wave := waveOf(r, g)
		n, k, _ := exactAt(g, wave)
		index, loss := frac(nearest(n)), frac(nearest(k))
		scale := over(frac(one), frac(100000000))
		x := product(scale, less(product(index, index), product(loss, loss)))
		y := product(scale, product(frac(2), product(index, loss)))
		want, errno := at(nearest(x), nearest(y), 0), api.OK
		if !x.IsInt() || !y.IsInt() {
			want.R = 1
		}
		if max(math.Abs(real(want.Z)), math.Abs(imag(want.Z))) > most {
			want, errno = api.Ball{}, api.ErrLarge
		}
		got, e := glass.Permittivity(g, wave)
		wantSame(t, "Permittivity", got, e, want, errno)
	}
}

// P2.2: GroupIndex.
func TestGroupIndex(t *testing.T) {
	for _, x := range []struct {
		name  string
		g     api.Glass
		wave  int
		want  api.Range
		errno api.Errno
	}{
		{"between", sample(), 5250, span(20000, 20000), api.OK},
		{"at the first row", sample(), 5000, span(20000, 20000), api.OK},
		{"at the last row", sample(), 6000, span(20000, 20000), api.OK},
		{"at a row that bends: the next one", bent(), 1003, span(1453001, 1453002), api.OK},
		{"before it", bent(), 1002, span(-1652000, -1652000), api.OK},
		{"at the last row: the one before", bent(), 200000, span(9969, 9970), api.OK},
		{"below 0, rounded", table([3]int{5000, 10000, 0}, [3]int{5003, 10010, 0}), 5001, span(-6667, -6666), api.OK},
		{"the greatest", table([3]int{199999, 80000, 0}, [3]int{200000, 5000, 0}), 200000, span(15000005000, 15000005000), api.OK},
		{"even", table([3]int{5000, 10000, 0}, [3]int{5003, 10000, 5}), 5001, span(10000, 10000), api.OK},
		{"a formula", formula(14500, 400), 2000, span(14800, 14800), api.OK},
		{"a formula, rounded", formula(14500, 400), 3000, span(14633, 14634), api.OK},
		{"a formula without the second number", formula(14500, 0), 3001, span(14500, 14500), api.OK},
		{"a formula at its steepest", formula(60000, 20000), 1000, span(120000, 120000), api.OK},
		{"one row", table([3]int{5000, 15000, 0}), 5000, api.Range{}, api.ErrShape},
		{"beside one row", table([3]int{5000, 15000, 0}), 5001, api.Range{}, api.ErrNone},
		{"far from one row", table([3]int{5000, 15000, 0}), 999, api.Range{}, api.ErrRange},
	} {
		got, e := glass.GroupIndex(x.g, x.wave)
		wantSame(t, x.name, got, e, x.want, x.errno)
	}
}

// P2.2: Abbe.
func TestAbbe(t *testing.T) {
	lines := func(blue, yellow, red int) api.Glass {
		return table([3]int{4000, 15300, 0}, [3]int{4861, blue, 0}, [3]int{5876, yellow, 9}, [3]int{6563, red, 0})
	}
	for _, x := range []struct {
		name  string
		g     api.Glass
		want  api.Frac
		errno api.Errno
	}{
		{"the example", lines(15200, 15100, 15000), api.Frac{Num: 51, Den: 2}, api.OK},
		{"no common divisor", lines(15200, 15101, 15000), api.Frac{Num: 5101, Den: 200}, api.OK},
		{"a whole one", lines(15200, 15000, 15100), api.Frac{Num: 50, Den: 1}, api.OK},
		{"rising", lines(15000, 15100, 15200), api.Frac{Num: -51, Den: 2}, api.OK},
		{"below 1", lines(15200, 9900, 15000), api.Frac{Num: -1, Den: 2}, api.OK},
		{"rising and below 1", lines(15000, 9900, 15200), api.Frac{Num: 1, Den: 2}, api.OK},
		{"of 1", lines(15000, 10000, 15200), api.Frac{Num: 0, Den: 1}, api.OK},
		{"the same", lines(15000, 15100, 15000), api.Frac{}, api.ErrZero},
		{"the same, of 1", lines(15000, 10000, 15000), api.Frac{}, api.ErrZero},
		{"a formula", formula(15000, 100), api.Frac{Num: 5003, Den: 2}, api.OK},
		{"an even formula", formula(15000, 0), api.Frac{}, api.ErrZero},
		{"a short table", table([3]int{4861, 15000, 0}, [3]int{6562, 14000, 0}), api.Frac{}, api.ErrNone},
		{"a late table", table([3]int{4862, 15000, 0}, [3]int{6563, 14000, 0}), api.Frac{}, api.ErrNone},
		{"one row", table([3]int{5876, 15000, 0}), api.Frac{}, api.ErrNone},
		{"just enough", table([3]int{4861, 15000, 0}, [3]int{6563, 13298, 0}), api.Frac{Num: 3985, Den: 1702}, api.OK},
	} {
		got, e := glass.Abbe(x.g)
		wantSame(t, x.name, got, e, x.want, x.errno)
	}
}

// P2.2: each result is the one that the definitions tell, to the last part.
func TestExactIndices(t *testing.T) {
	r := draws(2)
	for range 20000 {
		g := drawnGlass(r)
		wave := waveOf(r, g)
		index, loss, group := exactAt(g, wave)
		both, e := glass.At(g, wave)
		wantSame(t, "At", both, e, [2]int{nearest(index), nearest(loss)}, api.OK)
		spans, e := glass.Between(g, span(wave, wave))
		wantSame(t, "Between", spans, e, [2]api.Range{span(floor(index), ceil(index)), span(floor(loss), ceil(loss))}, api.OK)
		got, e := glass.GroupIndex(g, wave)
		if group == nil {
			wantSame(t, "GroupIndex", got, e, api.Range{}, api.ErrShape)
			continue
		}
		wantSame(t, "GroupIndex", got, e, span(floor(group), ceil(group)), api.OK)
		if t.Failed() {
			t.Fatalf("of %v at %d", g, wave)
		}
	}
}

// P2.2: an enclosure has no more than the wavelengths of its range: it is that of its ends and of the rows within.
func TestBetweenTight(t *testing.T) {
	r := draws(3)
	for range 5000 {
		g := drawnGlass(r)
		lo, hi := waveOf(r, g), waveOf(r, g)
		lo, hi = min(lo, hi), max(lo, hi)
		waves := []int{lo, hi}
		for _, wave := range g.Waves {
			if lo < wave && wave < hi {
				waves = append(waves, wave)
			}
		}
		want := [2]api.Range{span(math.MaxInt, 0), span(math.MaxInt, 0)}
		for _, wave := range waves {
			index, loss, _ := exactAt(g, wave)
			for i, x := range [2]*big.Rat{index, loss} {
				want[i] = span(min(want[i].Lo, floor(x)), max(want[i].Hi, ceil(x)))
			}
		}
		got, e := glass.Between(g, span(lo, hi))
		wantSame(t, "Between", got, e, want, api.OK)
	}
}

// within says whether each range of a lies in that of b.
func within(a, b [2]api.Range) bool {
	for i := range a {
		if a[i].Lo < b[i].Lo || a[i].Hi > b[i].Hi {
			return false
		}
	}
	return true
}

// P2.6: what At tells lies in Between of all ranges that have the wavelength; wider ranges have wider enclosures.
func TestAtLiesBetween(t *testing.T) {
	r := draws(4)
	for range 5000 {
		g := drawnGlass(r)
		wave, lo, hi := waveOf(r, g), waveOf(r, g), waveOf(r, g)
		narrow, e := glass.Between(g, span(min(wave, lo), max(wave, lo)))
		wide, errno := glass.Between(g, span(min(wave, lo, hi), max(wave, lo, hi)))
		if e != api.OK || errno != api.OK {
			t.Fatalf("%v: %d, %d", g, e, errno)
		}
		both, _ := glass.At(g, wave)
		if !within([2]api.Range{span(both[0], both[0]), span(both[1], both[1])}, narrow) || !within(narrow, wide) {
			t.Fatalf("%v at %d: %v, %v, %v", g, wave, both, narrow, wide)
		}
	}
}
