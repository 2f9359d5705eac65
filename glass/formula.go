package glass

import (
	"strconv"

	"etalon/api"
	"etalon/whole"
)

// mostFirst is the greatest first number of a formula: with the greatest second one the index is MaxIndex at LeastWave.
const mostFirst = 60000

// squareScale is by what the second number of a formula is multiplied ahead of its division by the squared wavelength.
const squareScale = 1000000

// formula is a material with two numbers.
type formula struct{ api.Glass }

func (f formula) check() (int, api.Errno) {
	if len(f.Waves) > 0 || len(f.Index) > 0 || len(f.Loss) > 0 {
		return 0, api.ErrForm
	}
	if !whole.Within(f.Cauchy[0], api.LeastIndex, mostFirst) || !whole.Within(f.Cauchy[1], 0, api.MaxCauchy) {
		return 0, api.ErrRange
	}
	return 0, api.OK
}

func (f formula) covers(wave int) bool { return true }

// times returns the index at a wavelength, if the second number were so many times as great.
func (f formula) times(wave, many int) ratio {
	square := wave * wave
	return ratio{f.Cauchy[0]*square + many*f.Cauchy[1]*squareScale, square}
}

func (f formula) told(wave int) [2]ratio { return [2]ratio{f.times(wave, 1), {0, 1}} }

// bends has nothing: the index falls everywhere.
func (f formula) bends() []int { return nil }

// group finds the group index: the wavelength times the slope is less than 0 by twice what the second number adds.
func (f formula) group(wave int) (ratio, api.Errno) { return f.times(wave, 3), api.OK }

func (f formula) lines() []string {
	return []string{sentence(wordCauchy, strconv.Itoa(f.Cauchy[0]), strconv.Itoa(f.Cauchy[1]))}
}
