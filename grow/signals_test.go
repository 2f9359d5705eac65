package grow_test

import (
	"math"
	"math/rand/v2"
	"slices"
	"testing"

	"etalon/api"
	"etalon/grow"
)

// signal returns a signal.
func signal(noise int, samples ...float32) api.GrowSignal {
	return api.GrowSignal{Noise: noise, Samples: samples}
}

// top returns a turn at a greatest sample, bottom one at a least sample.
func top(from, to, seen int) api.GrowTurn {
	return api.GrowTurn{Top: true, From: from, To: to, Seen: seen}
}

func bottom(from, to, seen int) api.GrowTurn {
	return api.GrowTurn{From: from, To: to, Seen: seen}
}

// turns returns a list of turns.
func turns(l ...api.GrowTurn) []api.GrowTurn { return l }

// minusZero is -0.
var minusZero = float32(math.Copysign(0, -1))

// P8.3: Turns.
func TestTurns(t *testing.T) {
	for _, x := range []struct {
		name   string
		signal api.GrowSignal
		want   []api.GrowTurn
	}{
		{"the chapter's example", signal(1, 0, 5, 9, 10, 9, 4, 3, 8), turns(top(2, 4, 5), bottom(5, 6, 7))},
		{"no samples", signal(0), nil},
		{"one sample", signal(0, 7), nil},
		{"two samples", signal(0, 7, 9), nil},
		{"samples that never differ by more than twice the noise", signal(2, 3, 7, 3, 7, 5, 3, 7, 4), nil},
		{"the same samples", signal(0, 5, 5, 5, 5), nil},
		{"up alone", signal(0, 1, 2, 3, 4), nil},
		{"down alone", signal(0, 4, 3, 2, 1), nil},
		{"down and up", signal(0, 4, 3, 2, 3), turns(bottom(2, 2, 3))},
		{"up and down", signal(0, 1, 2, 3, 2), turns(top(2, 2, 3))},
		{"down to several", signal(0, 4, 2, 2, 2, 3), turns(bottom(1, 3, 4))},
		{"up to several", signal(0, 1, 3, 3, 2), turns(top(1, 2, 3))},
		{"forth and back", signal(0, 0, 1, 0, 1, 0), turns(top(1, 1, 2), bottom(2, 2, 3), top(3, 3, 4))},
		{"-0", signal(0, 1, minusZero, 0, minusZero, 1), turns(bottom(1, 3, 4))},
		{"-0 alone", signal(0, minusZero, 0, minusZero, 0), nil},
		// Differences of just twice the noise, and of one more.
		{"up by twice the noise", signal(1, 0, 2, 0, 2), nil},
		{"up by one more", signal(1, 0, 3, 1), nil},
		{"up and down by one more", signal(1, 0, 3, 0), turns(top(1, 1, 2))},
		{"up by one more, down by twice", signal(1, 0, 3, 1, 3, 1), nil},
		{"up and down by one more, up by twice", signal(1, 0, 3, 0, 2), turns(top(1, 1, 2))},
		{"up, down and up by one more", signal(1, 0, 3, 0, 3), turns(top(1, 1, 2), bottom(2, 2, 3))},
		{"down by twice the noise", signal(1, 9, 7, 9, 7), nil},
		{"down by one more, up by twice", signal(1, 9, 6, 8, 6), nil},
		{"down and up by one more", signal(1, 9, 6, 9), turns(bottom(1, 1, 2))},
		{"step by step", signal(1, 0, 2, 4, 6, 4, 3, 1, 2, 4), turns(top(2, 4, 5), bottom(5, 7, 8))},
		{"nearly as much as the greatest one", signal(1, 0, 7, 8, 10, 8, 9, 7), turns(top(2, 5, 6))},
		{"nearly as little as the least one", signal(1, 20, 14, 13, 11, 13, 12, 14), turns(bottom(2, 5, 6))},
		{"a lesser one between great ones", signal(1, 0, 8, 7, 9, 6), turns(top(1, 3, 4))},
		// The end of the first stretch is no turn, whatever was ahead of it.
		{"a top in the first stretch", signal(1, 5, 7, 6, 4, 1), nil},
		{"a bottom in the first stretch", signal(1, 5, 3, 4, 6, 9), nil},
		{"up from the first stretch", signal(1, 5, 3, 4, 6, 3), turns(top(3, 3, 4))},
		{"down from the first stretch", signal(1, 5, 7, 6, 4, 7), turns(bottom(3, 3, 4))},
		{"a long first stretch", signal(2, 4, 8, 4, 8, 4, 8, 9, 12, 7), turns(top(6, 7, 8))},
		// A stretch has forgotten what was ahead of it.
		{"a new stretch", signal(2, 0, 100, 10, 12, 14, 15, 11, 10), turns(top(1, 1, 2), bottom(2, 4, 5), top(5, 6, 7))},
		{"the greatest noise", signal(1000000, 0, 1000000, 0, 1000000), nil},
		{"half of it", signal(500000, 0, 1000000, 0, 1000000), nil},
		{"a bit less", signal(499999, 0, 1000000, 0, 1000000, 0), turns(top(1, 1, 2), bottom(2, 2, 3), top(3, 3, 4))},
	} {
		got, e := grow.Turns(x.signal)
		wantSame(t, x.name, got, e, x.want, api.OK)
	}
}

// sampleDefects returns the defects of a sample.
func sampleDefects() []defect[float32] {
	var l []defect[float32]
	for _, x := range []float64{math.NaN(), math.Inf(1), math.Inf(-1), 0.5, -0.5, 999999.5, 1000000.0625, math.SmallestNonzeroFloat32} {
		l = append(l, defect[float32]{"not whole", func(y *float32) { *y = float32(x) }, api.ErrWhole, 0})
	}
	for _, x := range []float32{-1, 1000001, -1000001, math.MaxFloat32, -math.MaxFloat32, 1 << 62, 1 << 63, -1 << 63} {
		l = append(l, defect[float32]{"beyond", func(y *float32) { *y = x }, api.ErrRange, 0})
	}
	return l
}

// P8.3: the errors of signals, with their numbers; Turns has the same ones.
func TestSignalDefects(t *testing.T) {
	right := func() api.GrowSignal { return signal(1, 0, 1000000, minusZero, 5) }
	defects := slices.Concat(
		within("Noise", func(s *api.GrowSignal) *int { return &s.Noise }, beyond(0, 1000000)),
		[]defect[api.GrowSignal]{
			{"201 samples", func(s *api.GrowSignal) { s.Samples = make([]float32, 201) }, api.ErrLarge, 0},
			{"many wrong samples", func(s *api.GrowSignal) { s.Samples = slices.Repeat([]float32{-1}, 5000) }, api.ErrLarge, 0},
		},
	)
	for i := range 4 {
		sample := func(s *api.GrowSignal) *float32 { return &s.Samples[i] }
		defects = slices.Concat(defects, numbered(i, within("a sample", sample, sampleDefects())))
	}
	wantDefects(t, "CheckSignal", right, defects, grow.CheckSignal)
	wantDefects(t, "Turns", func() api.GrowSignal { return signal(1000000, 0, 1000000, minusZero, 5) }, defects, errorOf(t, grow.Turns))
	for _, x := range []struct {
		signal api.GrowSignal
		number int
		errno  api.Errno
	}{
		{api.GrowSignal{}, 0, api.OK},
		{signal(0, []float32{}...), 0, api.OK},
		{signal(1000000, make([]float32, 200)...), 0, api.OK},
		{signal(0, append(make([]float32, 199), -1)...), 199, api.ErrRange},
		{signal(0, append(make([]float32, 199), 0.25)...), 199, api.ErrWhole},
		{signal(-1, 0.5), 0, api.ErrRange},
		{signal(0, -1, 0.5), 0, api.ErrRange},
		{signal(0, 0.5, -1), 0, api.ErrWhole},
		{signal(0, 1, 2, -1, 0.5), 2, api.ErrRange},
		{signal(0, -1.5), 0, api.ErrWhole},
	} {
		n, e := grow.CheckSignal(x.signal)
		wantSame(t, "CheckSignal", n, e, x.number, x.errno)
	}
}

// drawnSignal returns a right signal that wanders up and down.
func drawnSignal(r *rand.Rand) api.GrowSignal {
	s := signal(r.IntN(1 << r.IntN(8)))
	size := 1 << (1 + r.IntN(12))
	x := r.IntN(size)
	for range r.IntN(1 + min(200, 1<<r.IntN(9))) {
		x = max(0, min(1000000, x+drawnBetween(r, -size, size)/(1+r.IntN(8))))
		s.Samples = append(s.Samples, float32(x))
	}
	return s
}

// P8.3: turns are those of the definition.
func TestTurnsAgain(t *testing.T) {
	r := draws(32)
	seen, none := 0, 0
	for range 20000 {
		s := drawnSignal(r)
		want := bookTurns(s)
		got, e := grow.Turns(s)
		wantSame(t, "Turns", got, e, want, api.OK)
		seen += len(want)
		if len(want) == 0 {
			none++
		}
	}
	t.Log(seen, none)
	wantSeen(t, "turns", seen, 50000)
	wantSeen(t, "signals without turns", none, 2000)
}

// P8.9: tops and bottoms alternate.
func TestTurnsAlternate(t *testing.T) {
	r := draws(33)
	for range 5000 {
		s := drawnSignal(r)
		l := must[[]api.GrowTurn](t)(grow.Turns(s))
		for i := 1; i < len(l); i++ {
			if l[i].Top == l[i-1].Top || l[i].From < l[i-1].Seen {
				t.Fatalf("%v: %v", s, l)
			}
		}
	}
}

// stretchesOf returns the beginnings of the stretches that turns end: the first one begins where the signal has left its
// first stretch.
func stretchesOf(s api.GrowSignal) []int {
	var l []int
	for _, x := range bookStretches(s) {
		if x.way != "open" {
			l = append(l, x.first)
		}
	}
	return l
}

// P8.9: whatever the true signal is, its greatest (least) number from the beginning of a stretch to Seen is at a sample
// from From to To, and the one at Seen is less (greater).
func TestSurelyTurned(t *testing.T) {
	r := draws(34)
	seen := 0
	for range 5000 {
		s := drawnSignal(r)
		l := must[[]api.GrowTurn](t)(grow.Turns(s))
		begins := stretchesOf(s)
		for range 3 {
			truth := drawnTruth(r, s)
			for i, turn := range l {
				at := greatest(truth, begins[i], turn)
				if at < turn.From || at > turn.To || truth[turn.Seen] == truth[at] {
					t.Fatalf("%v of %v: %v is greatest at %d", truth, s, turn, at)
				}
				seen++
			}
		}
	}
	wantSeen(t, "turns", seen, 50000)
}

// drawnTruth returns a true signal that is at most Noise away from all samples, often just so far.
func drawnTruth(r *rand.Rand, s api.GrowSignal) []float64 {
	noise := float64(s.Noise)
	var truth []float64
	for _, x := range s.Samples {
		wrong := [4]float64{noise, -noise, 0, (2*r.Float64() - 1) * noise}[r.IntN(4)]
		truth = append(truth, float64(x)+wrong)
	}
	return truth
}

// greatest returns where the greatest (of bottoms the least) number of a true signal is, from a first sample to Seen.
func greatest(truth []float64, first int, turn api.GrowTurn) int {
	at := first
	for i := first; i <= turn.Seen; i++ {
		if turn.Top && truth[i] > truth[at] || !turn.Top && truth[i] < truth[at] {
			at = i
		}
	}
	return at
}

// P8.3: no narrower samples would do: for both ends of a turn there is a true signal that turns there.
func TestTurnsReached(t *testing.T) {
	r := draws(35)
	for range 5000 {
		s := drawnSignal(r)
		l := must[[]api.GrowTurn](t)(grow.Turns(s))
		begins := stretchesOf(s)
		for i, turn := range l {
			noise := float64(s.Noise)
			if !turn.Top {
				noise = -noise
			}
			for _, at := range [2]int{turn.From, turn.To} {
				var truth []float64
				for j, x := range s.Samples {
					if j == at {
						truth = append(truth, float64(x)+noise)
					} else {
						truth = append(truth, float64(x)-noise)
					}
				}
				// Others may be as great, but none is greater.
				if truth[greatest(truth, begins[i], turn)] != truth[at] {
					t.Fatalf("%v: %v cannot be at %d", s, turn, at)
				}
			}
		}
	}
}
