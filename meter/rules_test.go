package meter_test

import (
	"math"
	"math/rand/v2"
	"reflect"
	"slices"
	"testing"

	"etalon/api"
	"etalon/meter"
)

// odd returns ints at all kinds of ends.
func odd(r *rand.Rand) func() int {
	l := []int{
		math.MinInt, math.MinInt + 1, -1 << 32, -api.MaxSum - 1, -api.MaxSum, -one - 1, -one, -5, -1, 0, 1, 2, 3, 4, 5, 7, 999, 1000, 1001, 4095, 5000, 9999, 10000, 65535, 65536,
		80000, 200000, one, one + 1, api.MaxSum, api.MaxSum + 1, 1 << 32, 1 << 62, math.MaxInt - 1, math.MaxInt,
	}
	return func() int { return l[r.IntN(len(l))] }
}

// oddPart returns parts of numbers at all kinds of ends.
func oddPart(r *rand.Rand) func() float64 {
	l := []float64{
		math.Inf(-1), -math.MaxFloat64, -1 << 63, -api.MaxSum - 1, -api.MaxSum, -4096, -4095, -1, minusZero, 0, math.SmallestNonzeroFloat64,
		0.5, 1, 2, 4, 4095, 4096, 65535, 65536, api.MaxSum, api.MaxSum + 1, 1 << 63, math.MaxFloat64, math.Inf(1), math.NaN(),
	}
	return func() float64 { return l[r.IntN(len(l))] }
}

// wantNone reports a result beside an error.
func wantNone[T any](t *testing.T, name string) func(got T, e api.Errno) {
	return func(got T, e api.Errno) {
		t.Helper()
		if e != api.OK && !reflect.ValueOf(&got).Elem().IsZero() {
			t.Fatalf("%s: %v beside the error %d", name, got, e)
		}
	}
}

// R2: no samples and beats make a function panic, and beside an error stands the zero value.
func TestNoPanicOfSamples(t *testing.T) {
	r := draws(80)
	n, part := odd(r), oddPart(r)
	for range 20000 {
		s := api.MeterScan{Margin: n(), Full: n()}
		if r.IntN(2) == 0 {
			s.Margin, s.Full = 1, 1+r.IntN(65536)
		}
		for range r.IntN(70) {
			s.Samples = append(s.Samples, float32(r.IntN(65536)))
		}
		for range r.IntN(min(3, len(s.Samples)+1)) {
			s.Samples[r.IntN(len(s.Samples))] = float32(part())
		}
		if i, e := meter.CheckScan(s); i != 0 && e != api.ErrWhole && e != api.ErrRange {
			t.Fatalf("%v: %d, %d", s, i, e)
		}
		wantNone[[]int](t, "Saturated")(meter.Saturated(s))
		wantNone[[4]complex128](t, "Harmonics")(meter.Harmonics(s))
		wantNone[api.MeterSums](t, "SumsOf")(meter.SumsOf(s))
		wantNone[[]float32](t, "Quantised")(meter.Quantised([]int{n(), n(), n()}[:r.IntN(4)], n()))
		h := [4]complex128{complex(part(), part()), complex(part(), part()), complex(part(), part()), complex(part(), part())}
		wantNone[[4]int](t, "SamplesOf")(meter.SamplesOf(h))
		beat := []complex64{complex64(h[0]), complex64(h[1]), complex64(h[2])}
		wantNone[complex128](t, "Lockin")(meter.Lockin(beat[:r.IntN(4)], n()))
	}
}

// R2: no sums, calibrations and readings make a function panic, and beside an error stands the zero value.
func TestNoPanic(t *testing.T) {
	r := draws(81)
	n := odd(r)
	of := func() api.Range {
		if r.IntN(3) == 0 {
			return span(n(), n())
		}
		return drawnRange(r, one)
	}
	for range 20000 {
		x, y := sums(of(), of(), of()), sums(of(), of(), of())
		a, b := drawnMatrix(r), drawnMatrix(r)
		if r.IntN(2) == 0 {
			a.Num[r.IntN(9)], b.Den = n(), n()
		}
		meter.CheckSums(x)
		meter.CheckMatrix(a)
		wantNone[api.MeterMatrix](t, "Chained")(meter.Chained(a, b))
		wantNone[api.MeterMatrix](t, "Offset")(meter.Offset(turn(n(), n(), n())))
		wantNone[api.MeterSums](t, "Seen")(meter.Seen(a, x))
		wantNone[api.MeterSums](t, "Corrected")(meter.Corrected(a, x))
		wantNone[[2]api.Range](t, "Ratios")(meter.Ratios(x))
		q := query(x, y, [...]api.PolarTurn{turn(n(), n(), n()), turn(3, -4, 5), turn(0, 1, 1)}[r.IntN(3)])
		p := reading(of(), of(), of())
		if r.IntN(3) == 0 {
			q.Wave, p.Wave, q.At, p.At = n(), n(), api.Incidence{Index: n(), Sine: n()}, api.Incidence{Index: n(), Sine: n()}
		}
		wantNone[api.Reading](t, "ReadingOf")(meter.ReadingOf(q))
		meter.CheckReading(p)
		wantNone[int](t, "Possible")(meter.Possible(p))
		wantNone[api.Range](t, "DegreeOf")(meter.DegreeOf(p))
		l := []api.Reading{p, reading(of(), of(), of()), p}[:r.IntN(4)]
		wantNone[api.Reading](t, "Averaged")(noNumber(meter.Averaged(l)))
		wantNone[string](t, "Print")(meter.Print(l))
		wantNone[api.Reading](t, "ParseReading")(meter.ParseReading(meter.FormatReading(p)))
		if r.IntN(20) == 0 {
			wantNone[api.Range](t, "PsiOf")(meter.PsiOf(p))
		}
	}
}

// R2: no bytes make a function of texts panic.
func TestNoPanicOfTexts(t *testing.T) {
	r := draws(82)
	for range 50000 {
		b := []byte(manyLines(r.IntN(3)))
		for range r.IntN(4) {
			i := r.IntN(len(b) + 1)
			b = slices.Insert(b, i, []byte{' ', '\n', '-', '0', '9', 'p', 0, 255}[r.IntN(8)])
			if j := r.IntN(len(b) + 1); r.IntN(2) == 0 && j > 0 {
				b = slices.Delete(b, j-1, j)
			}
		}
		l, n, e := meter.Parse(string(b))
		if (e != api.OK || n != 0) && (len(l) > 0 || n == 0) {
			t.Fatalf("%q: %v, %d, %d", b, l, n, e)
		}
		wantNone[api.Reading](t, "ParseReading")(meter.ParseReading(string(b)))
	}
}

// R3: no function writes into its arguments, also where a list has room behind its end.
func TestArgumentsStay(t *testing.T) {
	samples := []float32{30, 20, 10, 20, 0, 40, 7, 65535, -1, -1}
	s := api.MeterScan{Samples: samples[:8], Full: 40, Margin: 1}
	same := slices.Clone(samples)
	numbers, beat, readings := []int{7, 12, 13, -1}, []complex64{1, 1i, -1, 0.5}, []api.Reading{right(), right(), {}}
	must[[]int](t)(meter.Saturated(s))
	must[[4]complex128](t)(meter.Harmonics(s))
	meter.SumsOf(s)
	must[[]float32](t)(meter.Quantised(numbers[:3], 5))
	must[complex128](t)(meter.Lockin(beat[:3], 1))
	must[api.Reading](t)(noNumber(meter.Averaged(readings[:2])))
	must[string](t)(meter.Print(readings[:2]))
	if !slices.Equal(samples, same) || !slices.Equal(numbers, []int{7, 12, 13, -1}) || !slices.Equal(beat, []complex64{1, 1i, -1, 0.5}) || !slices.Equal(readings, []api.Reading{right(), right(), {}}) {
		t.Errorf("%v, %v, %v, %v", samples, numbers, beat, readings)
	}
}

// R3, R4: results share no memory with each other, and are the same in each call.
func TestResultsApart(t *testing.T) {
	s := api.MeterScan{Samples: []float32{30, 20, 10, 20}, Full: 20}
	places := must[[]int](t)(meter.Saturated(s))
	places[0] = 9
	_ = append(places[:1], 9)
	if again := must[[]int](t)(meter.Saturated(s)); !slices.Equal(again, []int{0, 1, 3}) {
		t.Errorf("%v", again)
	}
	multiples := must[[]float32](t)(meter.Quantised([]int{7, 12, 13}, 5))
	multiples[0] = 9
	if again := must[[]float32](t)(meter.Quantised([]int{7, 12, 13}, 5)); !slices.Equal(again, []float32{5, 10, 15}) {
		t.Errorf("%v", again)
	}
	l, _, e := meter.Parse(manyLines(2))
	l[0].Name = "q"
	_ = append(l[:1], api.Reading{})
	wantError(t, "Parse", e, api.OK)
	wantParsed(t, manyLines(2), []api.Reading{right(), right()}, 0, api.OK)
}

// R6: -0 counts as 0 in arguments, and no result has it.
func TestNoMinusZero(t *testing.T) {
	r := draws(83)
	parts := []float64{minusZero, 0, minusZero, 2, -2, 4}
	part := func() float64 { return parts[r.IntN(len(parts))] }
	number := func() complex128 { return complex(part(), part()) }
	plain := func(z complex128) complex128 { return at(int(real(z)), int(imag(z))) }
	for range 20000 {
		h := [4]complex128{number(), number(), number(), number()}
		var beat, plainBeat []complex64
		s, plainScan := scan(0), scan(0)
		without := h
		for i, z := range h {
			without[i] = plain(z)
			beat, plainBeat = append(beat, complex64(z)), append(plainBeat, complex64(plain(z)))
			x := math.Abs(real(z))
			if x == 0 {
				x = real(z)
			}
			s.Samples, plainScan.Samples = append(s.Samples, float32(x)), append(plainScan.Samples, float32(int(x)))
		}
		got, e := meter.SamplesOf(h)
		want, errno := meter.SamplesOf(without)
		wantSame(t, "SamplesOf", got, e, want, errno)
		for steps := range 4 {
			got, e := meter.Lockin(beat, steps)
			want, errno := meter.Lockin(plainBeat, steps)
			wantSame(t, "Lockin", got, e, want, errno)
			wantPlain(t, "Lockin", got)
		}
		harmonics := must[[4]complex128](t)(meter.Harmonics(s))
		if harmonics != must[[4]complex128](t)(meter.Harmonics(plainScan)) {
			t.Fatalf("%v: %v", s.Samples, harmonics)
		}
		wantPlain(t, "Harmonics", harmonics[:]...)
		if x := must[api.MeterSums](t)(meter.SumsOf(s)); x != must[api.MeterSums](t)(meter.SumsOf(plainScan)) {
			t.Fatalf("%v: %v", s.Samples, x)
		}
	}
	for _, x := range must[[]float32](t)(meter.Quantised([]int{0, 1, 2}, 9)) {
		wantPlain(t, "Quantised", complex(float64(x), 0))
	}
}
