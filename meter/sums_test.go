package meter_test

import (
	"math"
	"testing"

	"etalon/api"
	"etalon/meter"
)

// at returns a number by its parts.
func at(x, y int) complex128 { return complex(float64(x), float64(y)) }

// wantPlain reports each -0.
func wantPlain(t *testing.T, name string, numbers ...complex128) {
	t.Helper()
	for _, z := range numbers {
		if math.Signbit(real(z)) && real(z) == 0 || math.Signbit(imag(z)) && imag(z) == 0 {
			t.Errorf("%s: -0 in %v", name, numbers)
		}
	}
}

// drawnScan returns a right scan that no sample saturates.
func drawnScan(t *testing.T, margin, size int, draw func(n int) int) api.MeterScan {
	t.Helper()
	s := scan(margin)
	for range 4 * (1 + draw(16)) {
		s.Samples = append(s.Samples, float32(draw(size+1)))
	}
	return s
}

// P6.2: SumsOf.
func TestSumsOf(t *testing.T) {
	full := defect[api.MeterScan]{"saturated", func(s *api.MeterScan) { s.Full = 7 }, api.ErrFull, 0}
	wantDefects(t, "SumsOf", eight, append(scanDefects(), full), errorOf(t, meter.SumsOf))
	large := scan(api.MaxSample)
	for range 64 {
		large.Samples = append(large.Samples, api.MaxSample)
	}
	for _, x := range []struct {
		s    api.MeterScan
		want api.MeterSums
	}{
		{scan(1, 30, 20, 10, 20), sums(span(76, 84), span(18, 22), span(-2, 2))},
		{scan(0, 20, 30, 20, 10), sums(single(80), single(0), single(20))},
		{scan(0, 0, 0, 0, 0), sums(single(0), single(0), single(0))},
		{scan(3, 1, 0, 0, 0), sums(span(-11, 13), span(-5, 7), span(-6, 6))},
		{scan(3, 0, 1, 0, 0), sums(span(-11, 13), span(-6, 6), span(-5, 7))},
		{scan(3, 0, 0, 1, 0), sums(span(-11, 13), span(-7, 5), span(-6, 6))},
		{scan(3, 0, 0, 0, 1), sums(span(-11, 13), span(-6, 6), span(-7, 5))},
		{scan(1, 1, 2, 3, 4, 50, 60, 70, 80), sums(span(262, 278), span(-26, -18), span(-26, -18))},
		{large, sums(span(0, 8388480), span(-2097120, 2097120), span(-2097120, 2097120))},
	} {
		got, e := meter.SumsOf(x.s)
		wantSame(t, "sums", got, e, x.want, api.OK)
	}
	for _, x := range []struct {
		full  int
		errno api.Errno
	}{{30, api.ErrFull}, {31, api.OK}, {1, api.ErrFull}} {
		s := scan(1, 30, 20, 10, 20)
		s.Full = x.full
		_, e := meter.SumsOf(s)
		wantError(t, "nearly full", e, x.errno)
	}
	r := draws(10)
	for range 5000 {
		s := drawnScan(t, drawnSize(r, api.MaxSample), drawnSize(r, api.MaxSample), r.IntN)
		var want api.MeterSums
		// Each sample counts as the angles say, with its margin.
		for i, x := range s.Samples {
			for part, weight := range map[*api.Range]int{&want.All: 1, &want.Cos: []int{1, 0, -1, 0}[i%4], &want.Sin: []int{0, 1, 0, -1}[i%4]} {
				part.Lo += weight*int(x) - weight*weight*s.Margin
				part.Hi += weight*int(x) + weight*weight*s.Margin
			}
		}
		got, e := meter.SumsOf(s)
		wantSame(t, "sums", got, e, want, api.OK)
	}
}

// P6.2: Harmonics. Saturated samples have harmonics.
func TestHarmonics(t *testing.T) {
	wantDefects(t, "Harmonics", eight, scanDefects(), errorOf(t, meter.Harmonics))
	for _, x := range []struct {
		s    api.MeterScan
		want [4]complex128
	}{
		{scan(1, 30, 20, 10, 20), [4]complex128{80, 20, 0, 20}},
		{scan(0, 20, 30, 20, 10), [4]complex128{80, -20i, 0, 20i}},
		{scan(0, 1, 2, 3, 5), [4]complex128{11, -2 + 3i, -3, -2 - 3i}},
		{scan(0, 0, 0, 0, 0), [4]complex128{}},
		{api.MeterScan{Samples: []float32{9, 9, 0, 0}, Full: 1}, [4]complex128{18, 9 - 9i, 0, 9 + 9i}},
	} {
		got, e := meter.Harmonics(x.s)
		wantSame(t, "harmonics", got, e, x.want, api.OK)
		wantPlain(t, "harmonics", got[:]...)
	}
	r := draws(11)
	for range 5000 {
		s := drawnScan(t, 0, drawnSize(r, api.MaxSample), r.IntN)
		s.Full = 1 + r.IntN(api.MaxSample+1)
		var numbers [][2]int
		for _, x := range s.Samples {
			numbers = append(numbers, [2]int{int(x)})
		}
		got, e := meter.Harmonics(s)
		wantError(t, "harmonics", e, api.OK)
		for k, z := range got {
			want := bookHarmonic(numbers, k)
			if z != at(want[0], want[1]) {
				t.Errorf("harmonic %d of %v: %v; want %v", k, s.Samples, z, want)
			}
		}
		wantPlain(t, "harmonics", got[:]...)
	}
}

// wrongParts are numbers that are no numbers with whole parts up to most, with their errors.
func wrongParts(most float64) map[complex128]api.Errno {
	l := map[complex128]api.Errno{}
	for _, z := range []complex128{complex(math.NaN(), 0), complex(0, math.NaN()), complex(math.Inf(1), 0), complex(0, math.Inf(-1)), 0.5, 0.5i, complex(most+1, 0.5), complex(most+0.5, 0), complex(0, -most-0.5), complex(math.MaxFloat32, math.NaN())} {
		l[z] = api.ErrWhole
	}
	for _, z := range []complex128{complex(most+1, 0), complex(-most-1, 0), complex(0, most+1), complex(0, -most-1), complex(math.MaxFloat32, 0), complex(0, 1<<63)} {
		l[z] = api.ErrRange
	}
	return l
}

// P6.2: SamplesOf.
func TestSamplesOf(t *testing.T) {
	const most = api.MaxSum
	for _, x := range []struct {
		h     [4]complex128
		want  [4]int
		errno api.Errno
	}{
		{[4]complex128{80, 20, 0, 20}, [4]int{30, 20, 10, 20}, api.OK},
		{[4]complex128{80, -20i, 0, 20i}, [4]int{20, 30, 20, 10}, api.OK},
		{[4]complex128{11, -2 + 3i, -3, -2 - 3i}, [4]int{1, 2, 3, 5}, api.OK},
		{[4]complex128{}, [4]int{}, api.OK},
		{[4]complex128{complex(minusZero, minusZero), complex(minusZero, 0), 0, 0}, [4]int{}, api.OK},
		{[4]complex128{most, most, most, most}, [4]int{most, 0, 0, 0}, api.OK},
		{[4]complex128{-most, most, -most, most}, [4]int{0, 0, -most, 0}, api.OK},
		{[4]complex128{-4, -4, -4, -4}, [4]int{-4, 0, 0, 0}, api.OK},
		{[4]complex128{-4, 0, 0, 0}, [4]int{-1, -1, -1, -1}, api.OK},
		{[4]complex128{1, 0, 0, 0}, [4]int{}, api.ErrForm},
		{[4]complex128{2, 0, 0, 0}, [4]int{}, api.ErrForm},
		{[4]complex128{0, 4, 0, 0}, [4]int{}, api.ErrForm},
		{[4]complex128{0, 2, 0, 2}, [4]int{1, 0, -1, 0}, api.OK},
		{[4]complex128{0, 2i, 0, 2i}, [4]int{}, api.ErrForm},
		{[4]complex128{0, 2i, 0, -2i}, [4]int{0, -1, 0, 1}, api.OK},
		{[4]complex128{4i, 0, 0, 0}, [4]int{}, api.ErrForm},
		{[4]complex128{2, 0, 2i, 0}, [4]int{}, api.ErrForm},
		{[4]complex128{2, 2, 2, -2}, [4]int{}, api.ErrForm},
		{[4]complex128{2, 0, -2, 0}, [4]int{0, 1, 0, 1}, api.OK},
	} {
		got, e := meter.SamplesOf(x.h)
		wantSame(t, "samples", got, e, x.want, x.errno)
	}
	right := [4]complex128{80, 20, 0, 20}
	for i := range 4 {
		for z, errno := range wrongParts(most) {
			h := right
			h[i] = z
			got, e := meter.SamplesOf(h)
			wantSame(t, "a wrong number", got, e, [4]int{}, errno)
			// The first number decides.
			for other, first := range wrongParts(most) {
				if i > 0 {
					h[i-1] = other
					got, e := meter.SamplesOf(h)
					wantSame(t, "two wrong numbers", got, e, [4]int{}, first)
				}
			}
		}
	}
}

// P6.2: SamplesOf finds samples wherever there are some: harmonics up to 5 in their parts have no samples above 7.
func TestSamplesOfAll(t *testing.T) {
	const most = 7
	all := map[[4]complex128][4]int{}
	var l [4]int
	for l[0] = -most; l[0] <= most; l[0]++ {
		for l[1] = -most; l[1] <= most; l[1]++ {
			for l[2] = -most; l[2] <= most; l[2]++ {
				for l[3] = -most; l[3] <= most; l[3]++ {
					var h [4]complex128
					for k := range h {
						z := bookHarmonic([][2]int{{l[0]}, {l[1]}, {l[2]}, {l[3]}}, k)
						h[k] = at(z[0], z[1])
					}
					all[h] = l
				}
			}
		}
	}
	r := draws(12)
	found := 0
	for range 50000 {
		size := 1 + r.IntN(5)
		x, y := drawn(r, size), drawn(r, size)
		h := [4]complex128{at(drawn(r, size), 0), at(x, y), at(drawn(r, size), 0), at(x, -y)}
		if r.IntN(4) == 0 {
			h[r.IntN(4)] = at(drawn(r, size), drawn(r, size))
		}
		want, there := all[h]
		got, e := meter.SamplesOf(h)
		if there {
			found++
			wantSame(t, "samples", got, e, want, api.OK)
		} else {
			wantSame(t, "no samples", got, e, [4]int{}, api.ErrForm)
		}
	}
	if found < 2000 || found > 48000 {
		t.Errorf("%d of 50000 have samples", found)
	}
}

// P6.2: Lockin.
func TestLockin(t *testing.T) {
	const most = api.MaxBeatPart
	long := make([]complex64, 64)
	for i := range long {
		long[i] = most - most*1i
	}
	for _, x := range []struct {
		beat  []complex64
		steps int
		want  complex128
		errno api.Errno
	}{
		{[]complex64{1, 1i, -1, -1i}, 1, 4, api.OK},
		{[]complex64{1, 1i, -1, -1i}, 0, 0, api.OK},
		{[]complex64{1, 1i, -1, -1i}, -3, 4, api.OK},
		{[]complex64{1, 1i, -1, -1i}, -1, 0, api.OK},
		{[]complex64{1, 1i, -1, -1i}, 997, 4, api.OK},
		{[]complex64{1, 1i, -1, -1i}, -999, 4, api.OK},
		{[]complex64{1, 1i, -1, -1i}, 1000, 0, api.OK},
		{[]complex64{1, 1i, -1, -1i}, -1000, 0, api.OK},
		{[]complex64{2 + 3i}, 7, 2 + 3i, api.OK},
		{[]complex64{0, 2 + 3i}, 1, 3 - 2i, api.OK},
		{[]complex64{0, 2 + 3i}, -1, -3 + 2i, api.OK},
		{[]complex64{0, 0, 0, 0, 0, 1}, 3, 1i, api.OK},
		{long, 0, 64 * (most - most*1i), api.OK},
		{long, 1, 0, api.OK},
		{nil, 0, 0, api.ErrShape},
		{[]complex64{}, 1001, 0, api.ErrShape},
		{append(long, 0.5), 1001, 0, api.ErrLarge},
		{[]complex64{1, 0.5}, 1001, 0, api.ErrWhole},
		{[]complex64{1}, 1001, 0, api.ErrRange},
		{[]complex64{1}, -1001, 0, api.ErrRange},
		{[]complex64{1, 1}, math.MinInt, 0, api.ErrRange},
		{[]complex64{1, 1}, math.MaxInt, 0, api.ErrRange},
		{[]complex64{1, most + 1, 0.5}, 0, 0, api.ErrRange},
		{[]complex64{1, 0.5, most + 1}, 0, 0, api.ErrWhole},
	} {
		got, e := meter.Lockin(x.beat, x.steps)
		wantSame(t, "locked in", got, e, x.want, x.errno)
		wantPlain(t, "locked in", got)
	}
	for _, i := range []int{0, 3, 63} {
		for z, errno := range wrongParts(most) {
			beat := make([]complex64, 64)
			beat[i] = complex64(z)
			got, e := meter.Lockin(beat, 2000)
			wantSame(t, "a wrong sample", got, e, 0, errno)
		}
	}
	r := draws(13)
	for range 20000 {
		size, steps := drawnSize(r, most), drawn(r, 1000)
		var beat []complex64
		var numbers [][2]int
		for range 1 + r.IntN(64) {
			z := [2]int{drawn(r, size), drawn(r, size)}
			numbers, beat = append(numbers, z), append(beat, complex64(at(z[0], z[1])))
		}
		want := bookHarmonic(numbers, steps)
		got, e := meter.Lockin(beat, steps)
		wantSame(t, "locked in", got, e, at(want[0], want[1]), api.OK)
		wantPlain(t, "locked in", got)
	}
}

// P6.2: CheckSums.
func TestCheckSums(t *testing.T) {
	const most = api.MaxSum
	right := func() api.MeterSums { return sums(span(76, 84), span(18, 22), span(-2, 2)) }
	wantDefects(t, "CheckSums", right, sumsDefects(), alone(meter.CheckSums))
	for _, x := range []api.MeterSums{
		{}, sums(single(most), single(-most), span(-most, most)), sums(span(-most, 0), span(0, most), single(0)), sums(single(-1), single(1), span(0, 1)),
	} {
		wantError(t, "right sums", meter.CheckSums(x), api.OK)
	}
}
