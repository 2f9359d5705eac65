package glass

import (
	"etalon/api"
	"etalon/whole"
)

// ratio is a number ahead of its rounding; den is above 0.
type ratio struct{ num, den int }

func (r ratio) nearest() int {
	n, _ := whole.Nearest(r.num, 1, r.den)
	return n
}

// span returns the number rounded down, and rounded up.
func (r ratio) span() api.Range {
	return api.Range{Lo: whole.Lower(r.num, 1, r.den), Hi: whole.Upper(r.num, 1, r.den)}
}

// hull returns the least range that has both.
func hull(a, b api.Range) api.Range {
	return api.Range{Lo: min(a.Lo, b.Lo), Hi: max(a.Hi, b.Hi)}
}

// lowest returns num / den (other than 0) in lowest terms.
func lowest(num, den int) api.Frac {
	divisor := den
	for rest := num; rest != 0; {
		divisor, rest = rest, divisor%rest
	}
	// The divisor may have either sign: that of den makes the new denominator one above 0.
	if (divisor < 0) != (den < 0) {
		divisor = -divisor
	}
	return api.Frac{Num: num / divisor, Den: den / divisor}
}
