package fit_test

import (
	"math/big"
	"slices"

	"etalon/api"
	"etalon/ball"
	"etalon/stack"
)

// What follows finds results once more, straight from the chapter's definitions, with fractions of any size.

func rat(n int) *big.Rat           { return new(big.Rat).SetInt64(int64(n)) }
func plus(a, b *big.Rat) *big.Rat  { return new(big.Rat).Add(a, b) }
func minus(a, b *big.Rat) *big.Rat { return new(big.Rat).Sub(a, b) }
func times(a, b *big.Rat) *big.Rat { return new(big.Rat).Mul(a, b) }
func by(a, b *big.Rat) *big.Rat    { return new(big.Rat).Quo(a, b) }

// floor is exact: the denominator is above 0, so Div rounds down.
func floor(a *big.Rat) int { return int(new(big.Int).Div(a.Num(), a.Denom()).Int64()) }
func ceil(a *big.Rat) int  { return -floor(new(big.Rat).Neg(a)) }

// bookCut cuts a number.
func bookCut(n int) int {
	if n < -1048576 {
		return -1048576
	}
	if n > 1048576 {
		return 1048576
	}
	return n
}

// bookAmplitude returns what is reflected of a setting.
func bookAmplitude(q api.FitSetting, l []api.LayerBox, on api.Substrate, polar int) (api.Ball, api.Errno) {
	return stack.Reflected(api.StackAsk{Index: q.At.Index, Sine: just(q.At.Sine), Polar: polar, Wave: just(q.Wave), Layers: l, On: on})
}

// bookPredicted returns what would be read.
func bookPredicted(q api.FitSetting, l []api.LayerBox, on api.Substrate) ([3]api.Range, api.Errno) {
	var none [3]api.Range
	rs, e := bookAmplitude(q, l, on, api.PolarS)
	if e != api.OK {
		return none, e
	}
	rp, e := bookAmplitude(q, l, on, api.PolarP)
	if e != api.OK {
		return none, e
	}
	conj, e := ball.Conj(rs)
	if e != api.OK {
		return none, e
	}
	m, e := ball.Times(rp, conj)
	if e != api.OK {
		return none, e
	}
	es, _ := ball.Energy(rs)
	ep, _ := ball.Energy(rp)
	all := [2]int{es.Lo + ep.Lo, es.Hi + ep.Hi}
	if all[0] == 0 {
		return none, api.ErrZero
	}
	ratio := func(s, p int) *big.Rat { return by(times(rat(s-p), rat(one)), rat(s+p)) }
	told := [3]api.Range{span(floor(ratio(es.Lo, ep.Hi)), ceil(ratio(es.Hi, ep.Lo)))}
	parts, _ := ball.PartsOf(m)
	for i, part := range parts {
		var possible []*big.Rat
		for _, x := range [2]int{part.Lo, part.Hi} {
			for _, sum := range all {
				possible = append(possible, by(times(rat(-2*x), rat(one)), rat(sum)))
			}
		}
		told[i+1] = span(floor(slices.MinFunc(possible, (*big.Rat).Cmp)), ceil(slices.MaxFunc(possible, (*big.Rat).Cmp)))
	}
	for i, r := range told {
		told[i] = span(bookCut(r.Lo), bookCut(r.Hi))
	}
	return told, api.OK
}

// apart says whether ranges have no number in common.
func apart(a, b api.Range) bool { return a.Hi < b.Lo || b.Hi < a.Lo }

// inside says whether a range lies in another one.
func inside(a, b api.Range) bool { return b.Lo <= a.Lo && a.Hi <= b.Hi }

// rangesOf returns N, C and S of a reading.
func rangesOf(r api.Reading) [3]api.Range { return [3]api.Range{r.N, r.C, r.S} }

// bookRefutes says whether a reading refutes boxes.
func bookRefutes(r api.Reading, l []api.LayerBox, on api.Substrate) bool {
	told, e := bookPredicted(api.FitSetting{Wave: r.Wave, At: r.At}, l, on)
	if e != api.OK {
		return false
	}
	return apart(told[0], r.N) || apart(told[1], r.C) || apart(told[2], r.S)
}

// bookFirst returns the number of the first reading that refutes the boxes of a task, -1 if there is none.
func bookFirst(t api.FitTask) int {
	return slices.IndexFunc(t.Readings, func(r api.Reading) bool { return bookRefutes(r, t.Boxes, t.On) })
}

// bookExplains returns whether boxes explain the readings.
func bookExplains(t api.FitTask) int {
	if bookFirst(t) >= 0 {
		return 0
	}
	for _, r := range t.Readings {
		told, e := bookPredicted(api.FitSetting{Wave: r.Wave, At: r.At}, t.Boxes, t.On)
		if e != api.OK || !inside(told[0], r.N) || !inside(told[1], r.C) || !inside(told[2], r.S) {
			return 1
		}
	}
	return 2
}

// bookRanges returns the ranges of all dimensions.
func bookRanges(l []api.LayerBox) []api.Range {
	var all []api.Range
	for _, b := range l {
		all = append(all, b.Index, b.Thick)
	}
	return all
}

// bookHalves returns both halves.
func bookHalves(l []api.LayerBox, dimension int) (first, second []api.LayerBox) {
	first, second = append(first, l...), append(second, l...)
	k := dimension / 2
	if dimension == 2*k {
		m := (l[k].Index.Lo + l[k].Index.Hi) / 2
		first[k].Index = span(l[k].Index.Lo, m)
		second[k].Index = span(m+1, l[k].Index.Hi)
	} else {
		m := (l[k].Thick.Lo + l[k].Thick.Hi) / 2
		first[k].Thick = span(l[k].Thick.Lo, m)
		second[k].Thick = span(m+1, l[k].Thick.Hi)
	}
	return first, second
}

// bookWidest returns the widest dimension, and how many numbers it has besides one.
func bookWidest(l []api.LayerBox) (dimension, width int) {
	all := bookRanges(l)
	widest := slices.MaxFunc(all, func(a, b api.Range) int { return (a.Hi - a.Lo) - (b.Hi - b.Lo) })
	width = widest.Hi - widest.Lo
	return slices.IndexFunc(all, func(r api.Range) bool { return r.Hi-r.Lo == width }), width
}

// bookSearch returns the tree that is found with so many cuts left, however many numbers it has.
func bookSearch(t api.FitTask, left int) []int {
	if r := bookFirst(t); r >= 0 {
		return []int{-2 - r}
	}
	d, width := bookWidest(t.Boxes)
	if left == 0 || bookExplains(t) == 2 || width == 0 {
		return []int{-1}
	}
	a, b := t, t
	a.Boxes, b.Boxes = bookHalves(t.Boxes, d)
	return slices.Concat([]int{d}, bookSearch(a, left-1), bookSearch(b, left-1))
}

// bookLeaf is a leaf: its place, its number and its boxes.
type bookLeaf struct {
	place, number int
	boxes         []api.LayerBox
}

// bookLeaves returns the leaves of a tree of a task, which must be right; begin is the place of its first number.
func bookLeaves(t api.FitTask, tree []int, begin int) (leaves []bookLeaf, end int) {
	n := tree[begin]
	if n < 0 {
		return []bookLeaf{{begin, n, t.Boxes}}, begin + 1
	}
	a, b := t, t
	a.Boxes, b.Boxes = bookHalves(t.Boxes, n)
	first, middle := bookLeaves(a, tree, begin+1)
	second, end := bookLeaves(b, tree, middle)
	return append(first, second...), end
}

// bookCheck checks the part of a tree from a place on, and returns where it ends.
func bookCheck(t api.FitTask, tree []int, begin int) (end int, e api.Errno) {
	if begin >= len(tree) {
		return 0, api.ErrShape
	}
	n := tree[begin]
	if n == -1 {
		return begin + 1, api.OK
	}
	if n < -1 {
		for i, r := range t.Readings {
			if n == -2-i {
				if !bookRefutes(r, t.Boxes, t.On) {
					return 0, api.ErrProof
				}
				return begin + 1, api.OK
			}
		}
		return 0, api.ErrMissing
	}
	all := bookRanges(t.Boxes)
	if n >= len(all) {
		return 0, api.ErrMissing
	}
	if all[n].Lo == all[n].Hi {
		return 0, api.ErrBreak
	}
	a, b := t, t
	a.Boxes, b.Boxes = bookHalves(t.Boxes, n)
	middle, e := bookCheck(a, tree, begin+1)
	if e != api.OK {
		return 0, e
	}
	return bookCheck(b, tree, middle)
}

// bookTree returns the error of a tree of a right task.
func bookTree(t api.FitTask, tree []int) api.Errno {
	if len(tree) > 2000 {
		return api.ErrLarge
	}
	end, e := bookCheck(t, tree, 0)
	if e == api.OK && end < len(tree) {
		return api.ErrShape
	}
	return e
}

// bookHas says whether layers lie in boxes.
func bookHas(l []api.LayerBox, layers []api.Layer) bool {
	if len(l) != len(layers) {
		return false
	}
	for i, x := range layers {
		b := l[i]
		if x.Index < b.Index.Lo || x.Index > b.Index.Hi || x.Thick < b.Thick.Lo || x.Thick > b.Thick.Hi || x.Loss != b.Loss {
			return false
		}
	}
	return true
}

// bookFit returns the fit of right rows by elimination, and whether it is the only one.
func bookFit(rows [][2]int, values []int) (a, b *big.Rat, ok bool) {
	m := [2][3]*big.Rat{{rat(0), rat(0), rat(0)}, {rat(0), rat(0), rat(0)}}
	for i, row := range rows {
		for j := range 2 {
			for k, x := range [3]int{row[0], row[1], values[i]} {
				m[j][k] = plus(m[j][k], times(rat(row[j]), rat(x)))
			}
		}
	}
	if m[0][0].Sign() == 0 {
		return nil, nil, false
	}
	share := by(m[1][0], m[0][0])
	for k := range 3 {
		m[1][k] = minus(m[1][k], times(share, m[0][k]))
	}
	if m[1][1].Sign() == 0 {
		return nil, nil, false
	}
	b = by(m[1][2], m[1][1])
	return by(minus(m[0][2], times(m[0][1], b)), m[0][0]), b, true
}

// bookFrac returns a fraction, and whether it is small.
func bookFrac(x *big.Rat) (api.Frac, bool) {
	most := big.NewInt(1000000000)
	if x.Num().CmpAbs(most) > 0 || x.Denom().Cmp(most) > 0 {
		return api.Frac{}, false
	}
	return api.Frac{Num: int(x.Num().Int64()), Den: int(x.Denom().Int64())}, true
}

// bookSmallChange returns the fit of right rows.
func bookSmallChange(rows [][2]int, values []int) ([2]api.Frac, api.Errno) {
	a, b, ok := bookFit(rows, values)
	if !ok {
		return [2]api.Frac{}, api.ErrRank
	}
	first, one := bookFrac(a)
	second, two := bookFrac(b)
	if !one || !two {
		return [2]api.Frac{}, api.ErrLarge
	}
	return [2]api.Frac{first, second}, api.OK
}

// bookMisses returns the misses of right rows.
func bookMisses(rows [][2]int, values []int) ([]api.Frac, api.Errno) {
	a, b, ok := bookFit(rows, values)
	if !ok {
		return nil, api.ErrRank
	}
	var misses []api.Frac
	for i, row := range rows {
		miss, small := bookFrac(minus(rat(values[i]), plus(times(a, rat(row[0])), times(b, rat(row[1])))))
		if !small {
			return nil, api.ErrLarge
		}
		misses = append(misses, miss)
	}
	return misses, api.OK
}
