package glass

import (
	"strconv"

	"etalon/api"
	"etalon/whole"
)

// table is a material with rows.
type table struct{ api.Glass }

func (t table) check() (int, api.Errno) {
	if t.Cauchy != ([2]int{}) {
		return 0, api.ErrForm
	}
	rows := len(t.Waves)
	if rows == 0 || len(t.Index) != rows || len(t.Loss) != rows {
		return 0, api.ErrShape
	}
	if rows > api.MaxGlassRows {
		return 0, api.ErrLarge
	}
	for row := range rows {
		if e := t.checkRow(row); e != api.OK {
			return row, e
		}
	}
	return 0, api.OK
}

func (t table) checkRow(row int) api.Errno {
	index, loss := t.Index[row], t.Loss[row]
	switch {
	case !whole.Within(t.Waves[row], api.LeastWave, api.MaxWave):
		return api.ErrRange
	case !whole.IsWhole(float64(index)) || !whole.IsWhole(float64(loss)):
		return api.ErrWhole
	case index < api.LeastIndex || index > api.MaxIndex || loss < 0 || loss > api.MaxIndex:
		return api.ErrRange
	case row > 0 && t.Waves[row] <= t.Waves[row-1]:
		return api.ErrOrder
	}
	return api.OK
}

func (t table) covers(wave int) bool {
	return whole.Within(wave, t.Waves[0], t.Waves[len(t.Waves)-1])
}

// gap returns the first of the two rows between which a wavelength lies: at a row this one, at the last row the one before.
func (t table) gap(wave int) int {
	row := 0
	for row+2 < len(t.Waves) && t.Waves[row+1] <= wave {
		row++
	}
	return row
}

func (t table) told(wave int) [2]ratio {
	columns := [2][]float32{t.Index, t.Loss}
	var both [2]ratio
	if len(t.Waves) == 1 {
		for i, numbers := range columns {
			both[i] = ratio{int(numbers[0]), 1}
		}
		return both
	}
	row := t.gap(wave)
	gone, step := wave-t.Waves[row], t.Waves[row+1]-t.Waves[row]
	for i, numbers := range columns {
		from, to := int(numbers[row]), int(numbers[row+1])
		both[i] = ratio{from*(step-gone) + to*gone, step}
	}
	return both
}

func (t table) bends() []int { return t.Waves }

// group finds the group index, which is the same everywhere between two rows: where the line through both of them
// would be at the wavelength 0.
func (t table) group(wave int) (ratio, api.Errno) {
	if len(t.Waves) == 1 {
		return ratio{}, api.ErrShape
	}
	row := t.gap(wave)
	from, to := int(t.Index[row]), int(t.Index[row+1])
	step := t.Waves[row+1] - t.Waves[row]
	return ratio{from*step - (to-from)*t.Waves[row], step}, api.OK
}

func (t table) lines() []string {
	var all []string
	for row, wave := range t.Waves {
		all = append(all, sentence(wordRow, strconv.Itoa(wave), strconv.Itoa(int(t.Index[row])), strconv.Itoa(int(t.Loss[row]))))
	}
	return all
}
