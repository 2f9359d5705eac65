package meter

import (
	"etalon/api"
	"etalon/whole"
)

// mostSteps is the greatest size of the steps with which a beat is locked in.
const mostSteps = 1000

// lockedIn returns the sum of all numbers, the number j times i to the power of - j steps. All parts are whole and stay
// below 2^53 in size, so the sum is exact; as it begins with 0, none of its parts is -0.
func lockedIn(numbers []complex128, steps int) complex128 {
	powers := [4]complex128{1, -1i, -1, 1i}
	var all complex128
	for j, z := range numbers {
		// The last two bits are those of the power from 0 to 3, below 0 too.
		all += z * powers[j*steps&3]
	}
	return all
}

// Harmonics returns the four harmonics of a scan.
func Harmonics(s api.MeterScan) ([4]complex128, api.Errno) {
	if _, e := CheckScan(s); e != api.OK {
		return [4]complex128{}, e
	}
	var samples []complex128
	for _, x := range s.Samples {
		samples = append(samples, complex(float64(x), 0))
	}
	var h [4]complex128
	for k := range h {
		h[k] = lockedIn(samples, k)
	}
	return h, api.OK
}

// SamplesOf returns the four samples with these harmonics.
func SamplesOf(h [4]complex128) ([4]int, api.Errno) {
	for _, z := range h {
		if e := whole.CheckParts(z, api.MaxSum); e != api.OK {
			return [4]int{}, e
		}
	}
	var samples [4]int
	for j := range samples {
		// Locked in the other way round, the harmonics are four times the sample, whatever it is: there are no others.
		fourfold := whole.Parts(lockedIn(h[:], -j))
		if fourfold[0]%4 != 0 || fourfold[1] != 0 {
			return [4]int{}, api.ErrForm
		}
		samples[j] = fourfold[0] / 4
	}
	return samples, api.OK
}

// Lockin returns a beat, locked in with some steps.
func Lockin(beat []complex64, steps int) (complex128, api.Errno) {
	if len(beat) == 0 {
		return 0, api.ErrShape
	}
	if len(beat) > api.MaxBeat {
		return 0, api.ErrLarge
	}
	var samples []complex128
	for _, z := range beat {
		sample := complex128(z)
		if e := whole.CheckParts(sample, api.MaxBeatPart); e != api.OK {
			return 0, e
		}
		samples = append(samples, sample)
	}
	if !whole.Sized(steps, mostSteps) {
		return 0, api.ErrRange
	}
	return lockedIn(samples, steps), api.OK
}
