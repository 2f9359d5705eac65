package glass

import (
	"etalon/api"
	"etalon/span"
	"etalon/whole"
)

// ratio is a number ahead of its rounding; den is above 0.
type ratio struct{ num, den int }

func (r ratio) nearest() int {
	n, _ := whole.Nearest(r.num, 1, r.den)
	return n
}

// span returns the number rounded down, and rounded up.
func (r ratio) span() api.Range {
	return span.Quotient(r.num, r.den)
}
