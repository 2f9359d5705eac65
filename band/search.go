package band

import "etalon/api"

// Answer returns the answer of a task, the trees that prove its demands, and the point that refutes one.
func Answer(t api.BandTask) (int, [][]int, api.BandPoint, api.Errno) {
	if _, e := CheckTask(t); e != api.OK {
		return 0, nil, api.BandPoint{}, e
	}
	answer, trees := api.AnswerYes, [][]int(nil)
	for i, d := range t.Demands {
		one, tree, point := job{t, d}.search()
		if one == api.AnswerNo {
			point.Demand = i
			return one, nil, point, api.OK
		}
		answer = min(answer, one)
		trees = append(trees, tree)
	}
	if answer != api.AnswerYes {
		trees = nil
	}
	return answer, trees, api.BandPoint{}, api.OK
}

// search returns the answer of the demand, with the tree if it is AnswerYes, or the point that refutes the demand
// (without its number) if it is AnswerNo.
func (j job) search() (answer int, tree []int, point api.BandPoint) {
	answer = api.AnswerYes
	walk(j.band(), 0, func(x api.BandPiece, cuts int) (int, bool) {
		cut := api.CutNone
		if j.answer(x) != api.AnswerYes {
			wave, sine := middle(x.Wave), middle(x.Sine)
			if j.answer(single(wave, sine)) == api.AnswerNo {
				answer, point = api.AnswerNo, api.BandPoint{Wave: wave, Sine: sine}
				return cut, false
			}
			if cuts < api.MaxBandDeep {
				cut = cutOf(x)
			}
			// A part that stays open does not end the search: one behind it may have a refutation.
			if cut == api.CutNone {
				answer = api.AnswerMaybe
			}
		}
		tree = append(tree, cut)
		return cut, true
	})
	return answer, tree, point
}

// Over returns the ends of the demanded shares of all parts of the band that arise by so many cuts.
func Over(t api.BandTask, demand, cuts int) (api.Range, api.Errno) {
	j, errno := jobOf(t, demand)
	if errno != api.OK {
		return api.Range{}, errno
	}
	if cuts < 0 || cuts > api.MaxBandDeep {
		return api.Range{}, api.ErrRange
	}
	all := api.Range{Lo: api.One}
	walk(j.band(), 0, func(x api.BandPiece, made int) (int, bool) {
		if cut := cutOf(x); made < cuts && cut != api.CutNone {
			return cut, true
		}
		var s api.Range
		s, errno = j.share(x)
		all = api.Range{Lo: min(all.Lo, s.Lo), Hi: max(all.Hi, s.Hi)}
		return api.CutNone, errno == api.OK
	})
	if errno != api.OK {
		return api.Range{}, errno
	}
	return all, api.OK
}
