package band

import (
	"etalon/api"
	"etalon/span"
)

// AnswerAt returns whether a demand is kept (AnswerYes) or broken (AnswerNo) on a piece.
func AnswerAt(t api.BandTask, demand int, x api.BandPiece) (int, api.Errno) {
	j, e := jobOf(t, demand)
	if e != api.OK {
		return 0, e
	}
	if !span.Within(x.Wave, j.Wave.Lo, j.Wave.Hi) || !span.Within(x.Sine, j.Sine.Lo, j.Sine.Hi) {
		return 0, api.ErrRange
	}
	if x.Wave.Lo > x.Wave.Hi || x.Sine.Lo > x.Sine.Hi {
		return 0, api.ErrOrder
	}
	return j.answer(x), api.OK
}

// CheckPoint accepts a point that refutes its demand.
func CheckPoint(t api.BandTask, p api.BandPoint) api.Errno {
	answer, e := AnswerAt(t, p.Demand, single(p.Wave, p.Sine))
	if e != api.OK {
		return e
	}
	if answer != api.AnswerNo {
		return api.ErrProof
	}
	return api.OK
}

// CheckTree accepts a tree that proves a demand, and returns the number of its pieces. Beside ErrProof it returns
// the number of the node on whose piece the demand is not kept.
func CheckTree(t api.BandTask, demand int, tree []int) (int, api.Errno) {
	j, e := jobOf(t, demand)
	if e != api.OK {
		return 0, e
	}
	if len(tree) > api.MaxBandTree {
		return 0, api.ErrLarge
	}
	r := reader{job: j, tree: tree}
	walk(j.band(), 0, r.node)
	switch {
	case r.errno == api.ErrProof:
		return r.next - 1, api.ErrProof
	case r.errno != api.OK:
		return 0, r.errno
	case r.next < len(tree):
		return 0, api.ErrShape
	}
	return r.pieces, api.OK
}

// reader reads the nodes of a tree: next is the number of the next one.
type reader struct {
	job
	tree         []int
	next, pieces int
	errno        api.Errno
}

// node visits a part with the next node.
func (r *reader) node(x api.BandPiece, cuts int) (cut int, on bool) {
	if r.next == len(r.tree) {
		r.errno = api.ErrShape
		return api.CutNone, false
	}
	cut = r.tree[r.next]
	r.next++
	r.errno = r.checkNode(cut, x, cuts)
	if cut == api.CutNone {
		r.pieces++
	}
	return cut, r.errno == api.OK
}

// checkNode returns the error of a node for a part that arose by so many cuts.
func (r *reader) checkNode(cut int, x api.BandPiece, cuts int) api.Errno {
	halved := x.Wave
	switch cut {
	case api.CutNone:
		if r.answer(x) != api.AnswerYes {
			return api.ErrProof
		}
		return api.OK
	case api.CutSine:
		halved = x.Sine
	case api.CutWave:
	default:
		return api.ErrKind
	}
	if cuts >= api.MaxBandDeep {
		return api.ErrLarge
	}
	if !canHalve(halved) {
		return api.ErrBreak
	}
	return api.OK
}
