// Package span calculates with ranges. Several chapters use it.
package span

import (
	"etalon/api"
	"etalon/whole"
)

// Within says whether both ends of a range, which may stand the other way round, are from least to most.
func Within(r api.Range, least, most int) bool {
	return whole.Within(r.Lo, least, most) && whole.Within(r.Hi, least, most)
}

// Check checks a range whose ends are to be from least to most.
func Check(r api.Range, least, most int) api.Errno {
	if !Within(r, least, most) {
		return api.ErrRange
	}
	if r.Lo > r.Hi {
		return api.ErrOrder
	}
	return api.OK
}

// Quotient returns x / d (d other than 0), rounded down, and rounded up.
func Quotient(x, d int) api.Range {
	if d < 0 {
		x, d = -x, -d
	}
	return api.Range{Lo: whole.Lower(x, 1, d), Hi: whole.Upper(x, 1, d)}
}

// Hull returns the least range that has all numbers of ranges.
func Hull(first api.Range, others ...api.Range) api.Range {
	for _, r := range others {
		first = api.Range{Lo: min(first.Lo, r.Lo), Hi: max(first.Hi, r.Hi)}
	}
	return first
}

// AtEnds returns the hull of what a function makes of either end of one range, and either end of another one.
func AtEnds(a, b api.Range, of func(x, y int) api.Range) api.Range {
	return Hull(of(a.Lo, b.Lo), of(a.Lo, b.Hi), of(a.Hi, b.Lo), of(a.Hi, b.Hi))
}

// Common returns the numbers that ranges have in common, and whether there are any.
func Common(first api.Range, others ...api.Range) (api.Range, bool) {
	for _, r := range others {
		first = api.Range{Lo: max(first.Lo, r.Lo), Hi: min(first.Hi, r.Hi)}
	}
	if first.Lo > first.Hi {
		return api.Range{}, false
	}
	return first, true
}
