package meter

import (
	"etalon/api"
	"etalon/errs"
	"etalon/polar"
	"etalon/span"
	"etalon/whole"
)

// CheckSums returns the first error of sums.
func CheckSums(x api.MeterSums) api.Errno {
	const most = api.MaxSum
	return errs.First(span.Check(x.All, -most, most), span.Check(x.Cos, -most, most), span.Check(x.Sin, -most, most))
}

// CheckMatrix returns the error of a calibration.
func CheckMatrix(m api.MeterMatrix) api.Errno {
	if !whole.Within(m.Den, 1, api.MaxMeterPart) {
		return api.ErrRange
	}
	for _, n := range m.Num {
		if !whole.Sized(n, api.MaxMeterPart) {
			return api.ErrRange
		}
	}
	return api.OK
}

// Chained returns the product of two calibrations.
func Chained(a, b api.MeterMatrix) (api.MeterMatrix, api.Errno) {
	if e := errs.First(CheckMatrix(a), CheckMatrix(b)); e != api.OK {
		return api.MeterMatrix{}, e
	}
	product := api.MeterMatrix{Den: a.Den * b.Den}
	for i := range product.Num {
		for k := range 3 {
			product.Num[i] += a.Num[i/3*3+k] * b.Num[3*k+i%3]
		}
	}
	product = lowest(product)
	if CheckMatrix(product) != api.OK {
		return api.MeterMatrix{}, api.ErrLarge
	}
	return product, api.OK
}

// lowest returns a calibration with Den above 0 in lowest terms.
func lowest(m api.MeterMatrix) api.MeterMatrix {
	d := whole.Divisor(whole.Divisor(m.Num[:]...), m.Den)
	for i := range m.Num {
		m.Num[i] /= d
	}
	m.Den /= d
	return m
}

// Offset returns the calibration of an analyser that is off by half the angle of a turn.
func Offset(t api.PolarTurn) (api.MeterMatrix, api.Errno) {
	if e := polar.CheckTurn(t); e != api.OK {
		return api.MeterMatrix{}, e
	}
	return api.MeterMatrix{Num: [9]int{t.R, 0, 0, 0, t.P, -t.Q, 0, t.Q, t.P}, Den: t.R}, api.OK
}

// Seen returns what a calibration tells of true sums.
func Seen(m api.MeterMatrix, x api.MeterSums) (api.MeterSums, api.Errno) {
	if e := errs.First(CheckMatrix(m), CheckSums(x)); e != api.OK {
		return api.MeterSums{}, e
	}
	return resultingSums(seen(m, x))
}

// Corrected returns the true sums of what a calibration tells.
func Corrected(m api.MeterMatrix, x api.MeterSums) (api.MeterSums, api.Errno) {
	if e := errs.First(CheckMatrix(m), CheckSums(x)); e != api.OK {
		return api.MeterSums{}, e
	}
	back := inverse(m)
	if back.Den == 0 {
		return api.MeterSums{}, api.ErrRank
	}
	return resultingSums(seen(back, x))
}

// seen is Seen, also of an inverse.
func seen(m api.MeterMatrix, x api.MeterSums) api.MeterSums {
	row := func(from int) api.Range {
		return over(m.Den, sum(times(m.Num[from], x.All), times(m.Num[from+1], x.Cos), times(m.Num[from+2], x.Sin)))
	}
	return api.MeterSums{All: row(0), Cos: row(3), Sin: row(6)}
}

// inverse returns the inverse of a right calibration. Its Den is the determinant: it may be 0 (there is no inverse) or
// below 0, and no number has a limit.
func inverse(m api.MeterMatrix) api.MeterMatrix {
	// Counted on from a row and a column, the four numbers in the others are their minor with the right sign.
	at := func(row, column int) int { return m.Num[row%3*3+column%3] }
	var back api.MeterMatrix
	for i := range back.Num {
		column, row := i/3, i%3
		minor := at(row+1, column+1)*at(row+2, column+2) - at(row+1, column+2)*at(row+2, column+1)
		back.Num[i] = m.Den * minor
		if row == 0 {
			back.Den += at(row, column) * minor
		}
	}
	return back
}

// resultingSums returns sums as a result.
func resultingSums(x api.MeterSums) (api.MeterSums, api.Errno) {
	if CheckSums(x) != api.OK {
		return api.MeterSums{}, api.ErrLarge
	}
	return x, api.OK
}
