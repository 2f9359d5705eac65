package meter_test

import (
	"math/big"
	"math/rand/v2"
	"slices"
	"testing"

	"etalon/api"
	"etalon/meter"
)

// inside says whether a range lies in another one.
func inside(a, b api.Range) bool { return b.Lo <= a.Lo && a.Hi <= b.Hi }

// sumsInside says whether sums lie in others.
func sumsInside(a, b api.MeterSums) bool {
	return inside(a.All, b.All) && inside(a.Cos, b.Cos) && inside(a.Sin, b.Sin)
}

// holds says whether a number lies in a range.
func holds(r api.Range, x *big.Rat) bool { return rat(r.Lo).Cmp(x) <= 0 && x.Cmp(rat(r.Hi)) <= 0 }

// P6.8: what is told with errors up to the margin has the true sums, also with the greatest errors.
func TestTrueSums(t *testing.T) {
	r := draws(60)
	for i := range 5000 {
		s := drawnScan(t, drawnSize(r, 1000), api.MaxSample, r.IntN)
		var all, cos, sin int
		weights := [2][4]int{{1, 0, -1, 0}, {0, 1, 0, -1}}
		for j, x := range s.Samples {
			wrong := drawn(r, s.Margin)
			switch i % 4 {
			case 0:
				wrong = s.Margin
			case 1:
				wrong = -s.Margin * (weights[0][j%4] + weights[1][j%4])
			}
			truth := int(x) + wrong
			all, cos, sin = all+truth, cos+truth*weights[0][j%4], sin+truth*weights[1][j%4]
		}
		got := must[api.MeterSums](t)(meter.SumsOf(s))
		if !sumsInside(sums(single(all), single(cos), single(sin)), got) {
			t.Fatalf("%v: %v has not %d, %d, %d", s, got, all, cos, sin)
		}
		switch i % 4 {
		case 0:
			if all != got.All.Hi {
				t.Fatalf("%v: %v is wider than needed", s, got)
			}
		case 1:
			if cos != got.Cos.Lo || sin != got.Sin.Lo {
				t.Fatalf("%v: %v is wider than needed", s, got)
			}
		}
	}
}

// P6.8: harmonics, brought back, are the samples; Cos and Sin are parts of the first one; rounds add up.
func TestHarmonicsBack(t *testing.T) {
	r := draws(61)
	for range 5000 {
		s := drawnScan(t, 0, drawnSize(r, api.MaxSample), r.IntN)
		h := must[[4]complex128](t)(meter.Harmonics(s))
		var rounds [4]int
		for i, x := range s.Samples {
			rounds[i%4] += int(x)
		}
		back := must[[4]int](t)(meter.SamplesOf(h))
		if back != rounds {
			t.Fatalf("%v: %v; want %v", s.Samples, back, rounds)
		}
		x := must[api.MeterSums](t)(meter.SumsOf(s))
		if float64(x.Cos.Lo) != real(h[1]) || float64(x.Sin.Hi) != -imag(h[1]) || float64(x.All.Lo) != real(h[0]) {
			t.Fatalf("%v: %v, %v", s.Samples, x, h)
		}
		// Locked in with its steps, the scan as a beat is its harmonic.
		var beat []complex64
		for _, x := range s.Samples {
			beat = append(beat, complex(float32(int(x)%4096), 0))
		}
		for i := range s.Samples {
			s.Samples[i] = real(beat[i])
		}
		h = must[[4]complex128](t)(meter.Harmonics(s))
		for k, z := range h {
			if got := must[complex128](t)(meter.Lockin(beat, k)); got != z {
				t.Fatalf("%v with %d steps: %v; want %v", beat, k, got, z)
			}
		}
	}
}

// More exactly: quantised numbers differ by at most half a step, and are multiples.
func TestQuantisedNear(t *testing.T) {
	r := draws(62)
	for range 20000 {
		n, step := r.IntN(65000), 1+r.IntN(1000)
		l := must[[]float32](t)(meter.Quantised([]int{n}, step))
		m := int(l[0])
		if m%step != 0 || 2*(m-n) > step || 2*(n-m) >= step {
			t.Fatalf("%d by %d: %v", n, step, l)
		}
	}
}

// P6.9: sums that are seen and corrected contain what they were.
func TestCorrectedBack(t *testing.T) {
	r := draws(63)
	back := 0
	for range 20000 {
		m, x := drawnMatrix(r), drawnSums(r)
		y, e := meter.Seen(m, x)
		if e != api.OK {
			continue
		}
		z, e := meter.Corrected(m, y)
		if e == api.ErrRank || e == api.ErrLarge {
			continue
		}
		back++
		if e != api.OK || !sumsInside(x, z) {
			t.Fatalf("%v of %v: %v; back %v, %d", m, x, y, z, e)
		}
	}
	if back < 5000 {
		t.Errorf("%d were brought back", back)
	}
	for _, turn := range turnsUpTo(50) {
		m, x := must[api.MeterMatrix](t)(meter.Offset(turn)), sums(single(1000*turn.R), single(300*turn.R), single(-700*turn.R))
		if z := must[api.MeterSums](t)(meter.Corrected(m, must[api.MeterSums](t)(meter.Seen(m, x)))); z != x {
			t.Errorf("%v: %v", turn, z)
		}
	}
}

// P6.9: what two calibrations see, one after the other, contains what their product sees.
func TestSeenTwice(t *testing.T) {
	r := draws(64)
	both := 0
	for range 40000 {
		a, b, x := drawnMatrix(r), drawnMatrix(r), drawnSums(r)
		product, e := meter.Chained(a, b)
		if e != api.OK {
			continue
		}
		first, e := meter.Seen(b, x)
		if e != api.OK {
			continue
		}
		twice, e := meter.Seen(a, first)
		if e != api.OK {
			continue
		}
		both++
		if once := must[api.MeterSums](t)(meter.Seen(product, x)); !sumsInside(once, twice) {
			t.Fatalf("%v after %v of %v: %v has not %v", a, b, x, twice, once)
		}
	}
	if both < 5000 {
		t.Errorf("%d were seen twice", both)
	}
}

// light returns N, C and S of light, in parts of den, with a degree of at most 1.
func light(r *rand.Rand) (n, c, s *big.Rat) {
	exact := [][4]int{{1, 0, 0, 1}, {-1, 0, 0, 1}, {0, 1, 0, 1}, {0, 0, -1, 1}, {2, -2, 1, 3}, {-6, 3, 2, 7}, {4, 4, -7, 9}, {0, 3, 4, 5}, {-3, 0, -4, 5}}
	x := exact[r.IntN(len(exact))]
	if r.IntN(2) == 0 {
		x = [4]int{0, 0, 0, 1 + r.IntN(1000)}
		for {
			x[0], x[1], x[2] = drawn(r, x[3]), drawn(r, x[3]), drawn(r, x[3])
			if x[0]*x[0]+x[1]*x[1]+x[2]*x[2] <= x[3]*x[3] {
				break
			}
		}
	}
	part := func(i int) *big.Rat { return by(rat(x[i]), rat(x[3])) }
	return part(0), part(1), part(2)
}

// seenLight returns sums that have those of a scan: its ratios are a and b.
func seenLight(r *rand.Rand, a, b *big.Rat) api.MeterSums {
	all := 1000 + r.IntN(4000000)
	around := func(x *big.Rat) api.Range { return span(floor(x)-r.IntN(100)*r.IntN(2), ceil(x)+r.IntN(100)*r.IntN(2)) }
	half := by(rat(all), rat(2))
	return sums(around(rat(all)), around(times(a, half)), around(times(b, half)))
}

// P6.10: light lies in the reading of its scans.
func TestLightInItsReading(t *testing.T) {
	turns := turnsUpTo(40)
	r := draws(65)
	answers := map[int]int{}
	for range 10000 {
		twice := turns[r.IntN(len(turns))]
		if twice.Q == 0 {
			continue
		}
		n, c, s := light(r)
		// What a turning analyser tells of light with N and C: P - N R, and Q C, of R - N P.
		all := minus(rat(twice.R), times(n, rat(twice.P)))
		cos := by(minus(rat(twice.P), times(n, rat(twice.R))), all)
		bare := seenLight(r, cos, by(times(c, rat(twice.Q)), all))
		plate := seenLight(r, cos, by(times(s, rat(twice.Q)), all))
		got, e := meter.ReadingOf(query(bare, plate, twice))
		if e != api.OK {
			t.Fatalf("%v, %v, %v at %v: %d", n, c, s, twice, e)
		}
		for i, part := range []api.Range{got.N, got.C, got.S} {
			if !holds(part, times([]*big.Rat{n, c, s}[i], rat(one))) {
				t.Fatalf("%v, %v, %v at %v: %v", n, c, s, twice, got)
			}
		}
		answer := must[int](t)(meter.Possible(got))
		if answer == api.AnswerNo {
			t.Fatalf("%v, %v, %v at %v: %v is impossible", n, c, s, twice, got)
		}
		answers[answer]++
	}
	if answers[api.AnswerYes] < 1000 || answers[api.AnswerMaybe] < 1000 {
		t.Errorf("%v", answers)
	}
}

// More exactly: at 45 degrees N is -2 Cos / All, and C is 2 Sin / All.
func TestAt45Degrees(t *testing.T) {
	r := draws(66)
	for range 5000 {
		x := drawnRight(r)
		ratios, e := meter.Ratios(x)
		got, f := meter.ReadingOf(query(x, x, turn(0, 1, 1)))
		wantError(t, "the error of the ratios", f, e)
		if e == api.OK && got != reading(span(-ratios[0].Hi, -ratios[0].Lo), ratios[1], ratios[1]) {
			t.Fatalf("%v: %v; want %v", x, got, ratios)
		}
	}
}

// P6.10: what readings have in common lies in each of them, and has all numbers that are in each.
func TestAveragedInside(t *testing.T) {
	r := draws(67)
	found := 0
	for range 5000 {
		var l []api.Reading
		for range 1 + r.IntN(6) {
			l = append(l, reading(drawnRange(r, 1000), drawnRange(r, 1000), drawnRange(r, 1000)))
		}
		got, place, e := meter.Averaged(l)
		if e != api.OK {
			// All ahead of this place have something in common.
			if place == 0 || e != api.ErrClash || must[api.Reading](t)(noNumber(meter.Averaged(l[:place]))) == (api.Reading{}) {
				t.Fatalf("%v: %d, %d", l, place, e)
			}
			continue
		}
		found++
		var los, his []int
		for _, x := range l {
			if !inside(got.N, x.N) || !inside(got.C, x.C) || !inside(got.S, x.S) {
				t.Fatalf("%v: %v", l, got)
			}
			los, his = append(los, x.N.Lo), append(his, x.N.Hi)
		}
		if got.N != span(slices.Max(los), slices.Min(his)) {
			t.Fatalf("%v: %v", l, got)
		}
	}
	if found < 500 {
		t.Errorf("%d have something in common", found)
	}
}

// P6.10: psi of a wider reading is not narrower; psi is from 0 to a quarter of a turn.
func TestPsiOfWider(t *testing.T) {
	r := draws(68)
	for range 1000 {
		n := drawnRange(r, one)
		wider := span(max(-one, n.Lo-drawnSize(r, one)), min(one, n.Hi+drawnSize(r, one)))
		narrow := must[api.Range](t)(meter.PsiOf(reading(n, single(0), single(0))))
		wide := must[api.Range](t)(meter.PsiOf(reading(wider, single(0), single(0))))
		if !inside(narrow, wide) || !inside(wide, span(0, 1024)) || narrow.Lo > narrow.Hi {
			t.Fatalf("%v: %v; %v: %v", n, narrow, wider, wide)
		}
	}
}

// P6.11: ParseReading undoes FormatReading, Parse undoes Print.
func TestTextsBack(t *testing.T) {
	r := draws(69)
	for range 3000 {
		var l []api.Reading
		for range r.IntN(21) {
			x := drawnReading(r)
			back, e := meter.ParseReading(meter.FormatReading(x))
			wantSame(t, "a reading", back, e, x, api.OK)
			l = append(l, x)
		}
		s := must[string](t)(meter.Print(l))
		wantParsed(t, s, l, 0, api.OK)
	}
}
