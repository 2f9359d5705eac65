package meter

import (
	"etalon/api"
	"etalon/whole"
)

const (
	angles   = 4                 // angles of the analyser
	mostFull = api.MaxSample + 1 // with this Full no sample is saturated
	mostStep = 1000              // the greatest step of quantised numbers
)

// CheckScan returns the first error of a scan, with the number of the sample.
func CheckScan(s api.MeterScan) (int, api.Errno) {
	if n := len(s.Samples); n%angles != 0 || !whole.Within(n, angles, api.MaxScan) {
		return 0, api.ErrShape
	}
	if !whole.Within(s.Margin, 0, api.MaxSample) || !whole.Within(s.Full, 1, mostFull) {
		return 0, api.ErrRange
	}
	for i, x := range s.Samples {
		if e := checkSample(x); e != api.OK {
			return i, e
		}
	}
	return 0, api.OK
}

func checkSample(x float32) api.Errno {
	if !whole.IsWhole(float64(x)) {
		return api.ErrWhole
	}
	if x < 0 || x > api.MaxSample {
		return api.ErrRange
	}
	return api.OK
}

// Saturated returns the numbers of the saturated samples of a scan.
func Saturated(s api.MeterScan) ([]int, api.Errno) {
	if _, e := CheckScan(s); e != api.OK {
		return nil, e
	}
	return saturated(s), api.OK
}

func saturated(s api.MeterScan) []int {
	var l []int
	for i, x := range s.Samples {
		if int(x) >= s.Full {
			l = append(l, i)
		}
	}
	return l
}

// Quantised returns for each number the nearest multiple of a step.
func Quantised(l []int, step int) ([]float32, api.Errno) {
	if len(l) > api.MaxScan {
		return nil, api.ErrLarge
	}
	if !whole.Within(step, 1, mostStep) {
		return nil, api.ErrRange
	}
	var multiples []float32
	for _, n := range l {
		if !whole.Within(n, 0, api.MaxSample) {
			return nil, api.ErrRange
		}
		steps, _ := whole.Nearest(n, 1, step)
		if steps*step > api.MaxSample {
			return nil, api.ErrLarge
		}
		multiples = append(multiples, float32(steps*step))
	}
	return multiples, api.OK
}

// SumsOf returns the sums of a scan.
func SumsOf(s api.MeterScan) (api.MeterSums, api.Errno) {
	h, e := Harmonics(s)
	if e != api.OK {
		return api.MeterSums{}, e
	}
	if len(saturated(s)) > 0 {
		return api.MeterSums{}, api.ErrFull
	}
	// Half of the samples count for Cos, and the other half for Sin.
	spread := len(s.Samples) * s.Margin
	return api.MeterSums{
		All: around(real(h[0]), spread),
		Cos: around(real(h[1]), spread/2),
		Sin: around(-imag(h[1]), spread/2),
	}, api.OK
}

// around returns the enclosure of what is at most so far from a whole number.
func around(x float64, far int) api.Range {
	return api.Range{Lo: int(x) - far, Hi: int(x) + far}
}
