package glass

import (
	"etalon/api"
	"etalon/whole"
)

// ratio is a number ahead of its rounding; den is above 0.
type ratio struct{ num, den int }

func (r ratio) nearest() int {
	n, _ := whole.Nearest(r.num, 1, r.den)
	return n
}

// span returns the number rounded down, and rounded up.
func (r ratio) span() api.Range {
	return api.Range{Lo: whole.Lower(r.num, 1, r.den), Hi: whole.Upper(r.num, 1, r.den)}
}

// hull returns the least range that has both.
func hull(a, b api.Range) api.Range {
	return api.Range{Lo: min(a.Lo, b.Lo), Hi: max(a.Hi, b.Hi)}
}
