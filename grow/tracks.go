package grow

import (
	"etalon/api"
	"etalon/span"
	"etalon/whole"
)

// CheckTrack returns the first error of a track, with the number of the reading.
func CheckTrack(t api.GrowTrack) (int, api.Errno) {
	if e := checkRate(t.Rate); e != api.OK {
		return 0, e
	}
	if !whole.Within(t.Error, 0, api.MaxThick) {
		return 0, api.ErrRange
	}
	if len(t.Readings) > api.MaxGrowRead {
		return 0, api.ErrLarge
	}
	before := 0
	for i, r := range t.Readings {
		if !whole.Within(r.Second, 1, api.MaxGrowSeconds) || !whole.Within(r.Thick, 0, api.MaxThick) {
			return i, api.ErrRange
		}
		if r.Second <= before {
			return i, api.ErrOrder
		}
		before = r.Second
	}
	return 0, api.OK
}

// moment is a second, and the thicknesses (in thousandths) that a layer may have then.
type moment struct {
	second int
	thick  api.Range
}

// moments returns the beginning of a right track, and what each of its readings allows, so that the reading i stands
// at i + 1.
func moments(t api.GrowTrack) []moment {
	l := []moment{{}}
	for _, r := range t.Readings {
		l = append(l, moment{r.Second, api.Range{Lo: (r.Thick - t.Error) * thousand, Hi: (r.Thick + t.Error) * thousand}})
	}
	return l
}

// at returns the thicknesses that a layer with those of this moment may have at another second, later or earlier.
func (m moment) at(second int, rate api.Range) api.Range {
	seconds := second - m.second
	if seconds < 0 {
		// Of what has grown since, the most leaves the least.
		rate.Lo, rate.Hi = rate.Hi, rate.Lo
	}
	return api.Range{Lo: m.thick.Lo + rate.Lo*seconds, Hi: m.thick.Hi + rate.Hi*seconds}
}

// meets returns the thicknesses of this moment that those of another one allow, and whether there are any.
func (m moment) meets(other moment, rate api.Range) (api.Range, bool) {
	return span.Common(m.thick, other.at(m.second, rate))
}

// Tracked returns the enclosures of a track.
func Tracked(t api.GrowTrack) ([]api.Range, api.Errno) {
	if _, e := CheckTrack(t); e != api.OK {
		return nil, e
	}
	l := moments(t)
	for i := 1; i < len(l); i++ {
		thick, ok := l[i].meets(l[i-1], t.Rate)
		if !ok {
			return nil, api.ErrNone
		}
		l[i].thick = thick
	}
	// Each moment now has just the thicknesses that are grown up to it, so on the way back some are always left.
	for i := len(l) - 2; i > 0; i-- {
		l[i].thick, _ = l[i].meets(l[i+1], t.Rate)
	}
	var enclosures []api.Range
	for _, m := range l[1:] {
		enclosures = append(enclosures, m.thick)
	}
	return enclosures, api.OK
}

// Contradiction returns the first two readings that contradict; the beginning is the reading -1.
func Contradiction(t api.GrowTrack) ([2]int, api.Errno) {
	if _, e := CheckTrack(t); e != api.OK {
		return [2]int{}, e
	}
	l := moments(t)
	for i, earlier := range l {
		for j, later := range l[i+1:] {
			if _, ok := later.meets(earlier, t.Rate); !ok {
				return [2]int{i - 1, i + j}, api.OK
			}
		}
	}
	return [2]int{}, api.ErrNone
}
