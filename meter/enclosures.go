package meter

import (
	"etalon/api"
	"etalon/span"
)

// What is worked out here has at most 2^56 in size, so ints hold it.

// sum returns the sum of enclosures.
func sum(enclosures ...api.Range) api.Range {
	var all api.Range
	for _, r := range enclosures {
		all.Lo += r.Lo
		all.Hi += r.Hi
	}
	return all
}

// times returns an enclosure times a number.
func times(n int, r api.Range) api.Range {
	return api.Range{Lo: min(n*r.Lo, n*r.Hi), Hi: max(n*r.Lo, n*r.Hi)}
}

// over returns an enclosure divided by a number other than 0, rounded down and up.
func over(den int, r api.Range) api.Range {
	return span.Hull(span.Quotient(r.Lo, den), span.Quotient(r.Hi, den))
}

// square returns the squares of the numbers of an enclosure.
func square(r api.Range) api.Range {
	lo, hi := r.Lo*r.Lo, r.Hi*r.Hi
	if r.Lo < 0 && r.Hi > 0 {
		return api.Range{Hi: max(lo, hi)}
	}
	return api.Range{Lo: min(lo, hi), Hi: max(lo, hi)}
}

// cut returns an enclosure with ends from -One to One; it must not lie beyond them.
func cut(r api.Range) (api.Range, api.Errno) {
	if r.Lo > api.One || r.Hi < -api.One {
		return api.Range{}, api.ErrBreak
	}
	return api.Range{Lo: max(r.Lo, -api.One), Hi: min(r.Hi, api.One)}, api.OK
}
