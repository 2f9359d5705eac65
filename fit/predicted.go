package fit

import (
	"etalon/api"
	"etalon/ball"
	"etalon/errs"
	"etalon/span"
	"etalon/stack"
	"etalon/whole"
)

// Predicted returns what would be read of boxes with a setting: N, C and S.
func Predicted(q api.FitSetting, l []api.LayerBox, on api.Substrate) ([3]api.Range, api.Errno) {
	if e := errs.First(checkSetting(q), checkBoxes(l), checkSubstrate(on)); e != api.OK {
		return [3]api.Range{}, e
	}
	return predicted(q, l, on)
}

// predicted is Predicted of right arguments.
func predicted(q api.FitSetting, l []api.LayerBox, on api.Substrate) ([3]api.Range, api.Errno) {
	a := askOf(q, l, on)
	rs, e := stack.Reflected(a)
	if e != api.OK {
		return [3]api.Range{}, e
	}
	a.Polar = api.PolarP
	rp, e := stack.Reflected(a)
	if e != api.OK {
		return [3]api.Range{}, e
	}
	return readOf(rs, rp)
}

// readOf returns what is read of the amplitudes that are reflected across the plane of incidence, and in it.
func readOf(rs, rp api.Ball) ([3]api.Range, api.Errno) {
	// Of right balls, which these are, conjugates, energies and parts have no error.
	mirrored, _ := ball.Conj(rs)
	m, e := ball.Times(rp, mirrored)
	if e != api.OK {
		return [3]api.Range{}, e
	}
	es, _ := ball.Energy(rs)
	ep, _ := ball.Energy(rp)
	all := api.Range{Lo: es.Lo + ep.Lo, Hi: es.Hi + ep.Hi}
	if all.Lo == 0 {
		return [3]api.Range{}, api.ErrZero
	}
	n := api.Range{
		Lo: whole.Lower(es.Lo-ep.Hi, api.One, es.Lo+ep.Hi),
		Hi: whole.Upper(es.Hi-ep.Lo, api.One, es.Hi+ep.Lo),
	}
	parts, _ := ball.PartsOf(m)
	return [3]api.Range{cut(n), cut(shareOf(parts[0], all)), cut(shareOf(parts[1], all))}, api.OK
}

// shareOf returns -2 times a part, divided by all. It has at most 2^48 in size ahead of the division.
func shareOf(part, all api.Range) api.Range {
	return span.AtEnds(part, all, func(part, all int) api.Range { return span.Quotient(-2*part*api.One, all) })
}

// cut returns a range whose ends are cut one by one.
func cut(r api.Range) api.Range {
	ends := [2]int{r.Lo, r.Hi}
	for i, end := range ends {
		ends[i] = min(max(end, -api.One), api.One)
	}
	return api.Range{Lo: ends[0], Hi: ends[1]}
}

// common returns what two triples of ranges have in common, and whether this is something of each range.
func common(a, b [3]api.Range) ([3]api.Range, bool) {
	for i, r := range b {
		both, ok := span.Common(a[i], r)
		if !ok {
			return [3]api.Range{}, false
		}
		a[i] = both
	}
	return a, true
}

// Tells returns AnswerYes if a setting tells two boxes apart.
func Tells(q api.FitSetting, pair [2][]api.LayerBox, on api.Substrate) (int, api.Errno) {
	if e := errs.First(checkSetting(q), checkPair(pair, on)); e != api.OK {
		return 0, e
	}
	if !tells(q, pair, on) {
		return api.AnswerMaybe, api.OK
	}
	return api.AnswerYes, api.OK
}

// FirstTelling returns the number of the first setting that tells two boxes apart.
func FirstTelling(l []api.FitSetting, pair [2][]api.LayerBox, on api.Substrate) (int, api.Errno) {
	if len(l) > api.MaxReadings {
		return 0, api.ErrLarge
	}
	for _, q := range l {
		if e := checkSetting(q); e != api.OK {
			return 0, e
		}
	}
	if e := checkPair(pair, on); e != api.OK {
		return 0, e
	}
	for i, q := range l {
		if tells(q, pair, on) {
			return i, api.OK
		}
	}
	return 0, api.ErrNone
}

// checkPair checks two boxes and what they lie on.
func checkPair(pair [2][]api.LayerBox, on api.Substrate) api.Errno {
	return errs.First(checkBoxes(pair[0]), checkBoxes(pair[1]), checkSubstrate(on))
}

// tells says whether what would be read of two boxes has nothing in common.
func tells(q api.FitSetting, pair [2][]api.LayerBox, on api.Substrate) bool {
	first, e := predicted(q, pair[0], on)
	second, f := predicted(q, pair[1], on)
	if errs.First(e, f) != api.OK {
		return false
	}
	_, ok := common(first, second)
	return !ok
}
