package band_test

import (
	"math/big"

	"etalon/api"
	"etalon/stack"
)

// This file finds answers once more, straight from the chapter's definitions.

// bookShare returns the share on a piece that a demand is about.
func bookShare(t api.BandTask, d api.BandDemand, x api.BandPiece) (api.Range, api.Errno) {
	s, e := stack.SharesOf(api.StackAsk{Index: d.Index, Sine: x.Sine, Polar: d.Polar, Wave: x.Wave, Layers: t.Layers, On: t.On})
	return map[int]api.Range{api.ShareReflected: s.Reflected, api.ShareTransmitted: s.Transmitted, api.ShareAbsorbed: s.Absorbed}[d.Share], e
}

// bookAnswer returns the answer on a piece, by fractions of all light.
func bookAnswer(t api.BandTask, d api.BandDemand, x api.BandPiece) int {
	s, e := bookShare(t, d, x)
	if e != api.OK {
		return api.AnswerMaybe
	}
	lo, hi := big.NewRat(int64(s.Lo), api.One), big.NewRat(int64(s.Hi), api.One)
	least, most := big.NewRat(int64(d.Least), 10000), big.NewRat(int64(d.Most), 10000)
	if lo.Cmp(least) >= 0 && hi.Cmp(most) <= 0 {
		return api.AnswerYes
	}
	if hi.Cmp(least) < 0 || lo.Cmp(most) > 0 {
		return api.AnswerNo
	}
	return api.AnswerMaybe
}

// bookHalves returns the halves of a part as the search makes them, with the node that says so; a part that cannot
// be halved has none.
func bookHalves(x api.BandPiece) ([]api.BandPiece, int) {
	waves, sines := x.Wave.Hi-x.Wave.Lo, x.Sine.Hi-x.Sine.Lo
	if waves < 2 && sines < 2 {
		return nil, 0
	}
	if sines < 2 || waves >= 2 && waves >= sines {
		m := middle(x.Wave)
		return []api.BandPiece{{Wave: span(x.Wave.Lo, m), Sine: x.Sine}, {Wave: span(m, x.Wave.Hi), Sine: x.Sine}}, 1
	}
	m := middle(x.Sine)
	return []api.BandPiece{{Wave: x.Wave, Sine: span(x.Sine.Lo, m)}, {Wave: x.Wave, Sine: span(m, x.Sine.Hi)}}, 2
}

// bookFound is what a search finds.
type bookFound struct {
	tree        []int
	point       api.BandPoint
	broken      bool
	open, parts int
}

// bookSearch visits a part by so many cuts.
func bookSearch(t api.BandTask, d api.BandDemand, x api.BandPiece, cuts int, f *bookFound) {
	if f.broken {
		return
	}
	f.parts++
	if bookAnswer(t, d, x) == api.AnswerYes {
		f.tree = append(f.tree, 0)
		return
	}
	wave, sine := middle(x.Wave), middle(x.Sine)
	if bookAnswer(t, d, piece(just(wave), just(sine))) == api.AnswerNo {
		f.broken, f.point = true, api.BandPoint{Wave: wave, Sine: sine}
		return
	}
	halves, cut := bookHalves(x)
	if cuts == 5 || halves == nil {
		f.open++
		return
	}
	f.tree = append(f.tree, cut)
	for _, half := range halves {
		bookSearch(t, d, half, cuts+1, f)
	}
}

// bookFind searches for the demand of a task.
func bookFind(t api.BandTask, demand int) bookFound {
	var f bookFound
	d := t.Demands[demand]
	bookSearch(t, d, piece(d.Wave, d.Sine), 0, &f)
	f.point.Demand = demand
	return f
}

// bookTask returns the answer of a task, its trees and its refutation.
func bookTask(t api.BandTask) (int, [][]int, api.BandPoint) {
	var trees [][]int
	open := false
	for i := range t.Demands {
		f := bookFind(t, i)
		if f.broken {
			return api.AnswerNo, nil, f.point
		}
		open = open || f.open > 0
		trees = append(trees, f.tree)
	}
	if open {
		return api.AnswerMaybe, nil, api.BandPoint{}
	}
	return api.AnswerYes, trees, api.BandPoint{}
}

// bookParts returns all parts of a part that arise by so many cuts.
func bookParts(x api.BandPiece, cuts int) []api.BandPiece {
	halves, _ := bookHalves(x)
	if cuts == 0 || halves == nil {
		return []api.BandPiece{x}
	}
	return append(bookParts(halves[0], cuts-1), bookParts(halves[1], cuts-1)...)
}

// bookOver returns the ends of the shares of all parts.
func bookOver(t api.BandTask, demand, cuts int) (api.Range, api.Errno) {
	d := t.Demands[demand]
	var all api.Range
	for i, x := range bookParts(piece(d.Wave, d.Sine), cuts) {
		s, e := bookShare(t, d, x)
		if e != api.OK {
			return api.Range{}, e
		}
		if i == 0 {
			all = s
		}
		all = span(min(all.Lo, s.Lo), max(all.Hi, s.Hi))
	}
	return all, api.OK
}
