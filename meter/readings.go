package meter

import (
	"etalon/api"
	"etalon/errs"
	"etalon/polar"
	"etalon/span"
)

// Ratios returns the ratios of sums, in parts of One.
func Ratios(x api.MeterSums) ([2]api.Range, api.Errno) {
	if e := CheckSums(x); e != api.OK {
		return [2]api.Range{}, e
	}
	if x.All.Lo <= 0 {
		return [2]api.Range{}, api.ErrZero
	}
	twice := func(part, all int) api.Range { return span.Quotient(2*part*api.One, all) }
	cos, e := cut(span.AtEnds(x.Cos, x.All, twice))
	sin, f := cut(span.AtEnds(x.Sin, x.All, twice))
	if e := errs.First(e, f); e != api.OK {
		return [2]api.Range{}, e
	}
	return [2]api.Range{cos, sin}, api.OK
}

// ReadingOf returns the reading of two scans.
func ReadingOf(q api.MeterQuery) (api.Reading, api.Errno) {
	e := errs.First(checkSetting(q.Name, q.Wave, q.At), CheckSums(q.Bare), CheckSums(q.Plate), polar.CheckTurn(q.Twice))
	if e != api.OK {
		return api.Reading{}, e
	}
	if q.Twice.Q == 0 {
		return api.Reading{}, api.ErrZero
	}
	bare, e := Ratios(q.Bare)
	plate, f := Ratios(q.Plate)
	if e := errs.First(e, f); e != api.OK {
		return api.Reading{}, e
	}
	n, ok := span.Common(cosine(q.Twice, bare[0]), cosine(q.Twice, plate[0]))
	if !ok {
		return api.Reading{}, api.ErrClash
	}
	c, e := cut(sine(q.Twice, bare[1], n))
	s, f := cut(sine(q.Twice, plate[1], n))
	if e := errs.First(e, f); e != api.OK {
		return api.Reading{}, e
	}
	return api.Reading{Name: q.Name, Wave: q.Wave, At: q.At, N: n, C: c, S: s}, api.OK
}

// cosine returns N by a ratio of Cos. It falls with the ratio; as Q is not 0, what it is divided by is above 0.
func cosine(t api.PolarTurn, ratio api.Range) api.Range {
	of := func(x int) api.Range {
		return span.Quotient((t.P*api.One-x*t.R)*api.One, t.R*api.One-x*t.P)
	}
	return span.Hull(of(ratio.Hi), of(ratio.Lo))
}

// sine returns C, or S, by a ratio of Sin, and by N.
func sine(t api.PolarTurn, ratio, n api.Range) api.Range {
	return span.AtEnds(ratio, n, func(y, n int) api.Range {
		return span.Quotient(y*(t.R*api.One-n*t.P), t.Q*api.One)
	})
}
