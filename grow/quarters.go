package grow

import (
	"etalon/api"
	"etalon/errs"
	"etalon/span"
	"etalon/whole"
)

func checkQuarter(q api.GrowQuarter) api.Errno {
	if !whole.Within(q.Index, api.LeastIndex, api.MaxIndex) || !whole.Within(q.Wave, api.LeastWave, api.MaxWave) || !whole.Within(q.Order, 1, api.MaxGrowOrder) {
		return api.ErrRange
	}
	return api.OK
}

// thickness returns the thickness of right quarters, which is num / den. In thousandths num is less than 2^49, and what
// may grow, over the same den, less than 2^55, so ints hold both.
func thickness(q api.GrowQuarter) (num, den int) {
	return q.Order * q.Wave * api.IndexOne, 4 * q.Index
}

// QuarterThick returns the thickness of quarters, rounded down and up.
func QuarterThick(q api.GrowQuarter) (api.Range, api.Errno) {
	if e := checkQuarter(q); e != api.OK {
		return api.Range{}, e
	}
	return span.Quotient(thickness(q)), api.OK
}

// RateOf returns the rate of a layer between two turns that are Order quarters apart, if so many seconds went by.
func RateOf(q api.GrowQuarter, between api.Range) (api.Range, api.Errno) {
	if e := errs.First(checkQuarter(q), checkSeconds(between)); e != api.OK {
		return api.Range{}, e
	}
	if between.Lo == 0 {
		return api.Range{}, api.ErrZero
	}
	num, den := thickness(q)
	return api.Range{
		Lo: whole.Lower(num, thousand, den*between.Hi),
		Hi: whole.Upper(num, thousand, den*between.Lo),
	}, api.OK
}

// EndAt returns the thickness some seconds behind a turn at Order quarters.
func EndAt(q api.GrowQuarter, rate, after api.Range) (api.Range, api.Errno) {
	if e := errs.First(checkQuarter(q), checkRate(rate), checkSeconds(after)); e != api.OK {
		return api.Range{}, e
	}
	num, den := thickness(q)
	return api.Range{
		Lo: whole.Lower(num*thousand+rate.Lo*after.Lo*den, 1, den*thousand),
		Hi: whole.Upper(num*thousand+rate.Hi*after.Hi*den, 1, den*thousand),
	}, api.OK
}
