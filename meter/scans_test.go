package meter_test

import (
	"math"
	"slices"
	"testing"

	"etalon/api"
	"etalon/meter"
)

// eight returns a right scan of two rounds.
func eight() api.MeterScan { return scan(1, 30, 20, 10, 20, 0, 65535, 7, float32(minusZero)) }

// P6.1: CheckScan.
func TestCheckScan(t *testing.T) {
	wantDefects(t, "CheckScan", eight, scanDefects(), meter.CheckScan)
	for _, s := range []api.MeterScan{
		scan(0, 0, 0, 0, 0), scan(api.MaxSample, 0, 1, 65534, 65535), {Samples: make([]float32, 64), Full: 1}, {Samples: make([]float32, 60), Full: api.MaxSample + 1},
		scan(0, 65535, 65535, 65535, 65535), scan(0, float32(minusZero), 0, 0, float32(minusZero)), {Samples: []float32{9, 9, 9, 9}, Full: 9},
	} {
		n, e := meter.CheckScan(s)
		wantSame(t, "a right scan", n, e, 0, api.OK)
	}
	// One by one: the first sample with an error decides, whatever error it is.
	s := eight()
	s.Samples[2], s.Samples[3] = -1, 0.5
	n, e := meter.CheckScan(s)
	wantSame(t, "two wrong samples", n, e, 2, api.ErrRange)
	s.Samples[1] = float32(math.NaN())
	n, e = meter.CheckScan(s)
	wantSame(t, "three wrong samples", n, e, 1, api.ErrWhole)
}

// P6.1: Saturated samples are those of at least Full.
func TestSaturated(t *testing.T) {
	wantDefects(t, "Saturated", eight, scanDefects(), errorOf(t, meter.Saturated))
	for _, x := range []struct {
		full int
		want []int
	}{
		{1, []int{0, 1, 2, 3, 5, 6}}, {7, []int{0, 1, 2, 3, 5, 6}}, {8, []int{0, 1, 2, 3, 5}}, {10, []int{0, 1, 2, 3, 5}}, {11, []int{0, 1, 3, 5}},
		{30, []int{0, 5}}, {31, []int{5}}, {65535, []int{5}}, {65536, nil},
	} {
		s := eight()
		s.Full = x.full
		l, e := meter.Saturated(s)
		if !slices.Equal(l, x.want) || e != api.OK {
			t.Errorf("from %d on: %v, %d; want %v", x.full, l, e, x.want)
		}
	}
}

// P6.1: Quantised returns the nearest multiples, halves up.
func TestQuantised(t *testing.T) {
	for _, x := range []struct {
		l     []int
		step  int
		want  []float32
		errno api.Errno
	}{
		{[]int{7, 12, 13}, 5, []float32{5, 10, 15}, api.OK},
		{[]int{0, 1, 2, 3, 65533}, 2, []float32{0, 2, 2, 4, 65534}, api.OK},
		{[]int{65535, 0, 65535}, 1, []float32{65535, 0, 65535}, api.OK},
		{[]int{499, 500, 1499, 1500, 65499}, 1000, []float32{0, 1000, 1000, 2000, 65000}, api.OK},
		{[]int{65535}, 5, []float32{65535}, api.OK},
		{nil, 5, nil, api.OK},
		{[]int{}, 1000, nil, api.OK},
		{[]int{65535}, 2, nil, api.ErrLarge},
		{[]int{5, 65500}, 1000, nil, api.ErrLarge},
		{[]int{65500, -1}, 1000, nil, api.ErrLarge},
		{[]int{-1, 65500}, 1000, nil, api.ErrRange},
		{[]int{65536, 65500}, 1000, nil, api.ErrRange},
		{[]int{0, -1}, 1, nil, api.ErrRange},
		{[]int{0, 65536}, 1, nil, api.ErrRange},
		{[]int{math.MinInt}, 1, nil, api.ErrRange},
		{[]int{math.MaxInt}, 1000, nil, api.ErrRange},
		{nil, 0, nil, api.ErrRange},
		{nil, -1, nil, api.ErrRange},
		{nil, 1001, nil, api.ErrRange},
		{nil, math.MinInt, nil, api.ErrRange},
		{nil, math.MaxInt, nil, api.ErrRange},
		{[]int{65535}, 1001, nil, api.ErrRange},
		{make([]int, 64), 3, make([]float32, 64), api.OK},
		{make([]int, 65), 3, nil, api.ErrLarge},
		{make([]int, 65), 0, nil, api.ErrLarge},
		{slices.Repeat([]int{-1}, 65), 1, nil, api.ErrLarge},
	} {
		l, e := meter.Quantised(x.l, x.step)
		if !slices.Equal(l, x.want) || e != x.errno {
			t.Errorf("%v by %d: %v, %d; want %v, %d", x.l, x.step, l, e, x.want, x.errno)
		}
	}
	for _, step := range []int{1, 2, 3, 4, 7, 10, 255, 256, 999, 1000} {
		for n := 0; n <= api.MaxSample; n += 1 + n%13 {
			l, e := meter.Quantised([]int{n}, step)
			// Going up, the nearest multiple is the last one that is not farther than the one before.
			want := 0
			for want+step-n <= n-want {
				want += step
			}
			if want > api.MaxSample {
				wantSame(t, "a multiple that is too large", l, e, nil, api.ErrLarge)
			} else if e != api.OK || len(l) != 1 || l[0] != float32(want) {
				t.Errorf("%d by %d: %v, %d; want %d", n, step, l, e, want)
			}
		}
	}
}
