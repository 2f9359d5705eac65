package band

import "etalon/api"

// middle returns the half of both ends of a range together.
func middle(r api.Range) int { return (r.Lo + r.Hi) / 2 }

// width returns how far the ends of a range are apart.
func width(r api.Range) int { return r.Hi - r.Lo }

// canHalve says whether a range has at least 3 numbers.
func canHalve(r api.Range) bool { return width(r) >= 2 }

// single returns the piece of a single wavelength and sine.
func single(wave, sine int) api.BandPiece {
	return api.BandPiece{Wave: api.Range{Lo: wave, Hi: wave}, Sine: api.Range{Lo: sine, Hi: sine}}
}

// cutOf returns how the search halves a part, CutNone if it cannot.
func cutOf(x api.BandPiece) int {
	wave, sine := canHalve(x.Wave), canHalve(x.Sine)
	switch {
	case wave && (!sine || width(x.Wave) >= width(x.Sine)):
		return api.CutWave
	case sine:
		return api.CutSine
	}
	return api.CutNone
}

// halves returns both halves of a part by a cut, which must be possible; of CutNone none.
func halves(x api.BandPiece, cut int) []api.BandPiece {
	first, second := x, x
	switch cut {
	case api.CutWave:
		first.Wave.Hi, second.Wave.Lo = middle(x.Wave), middle(x.Wave)
	case api.CutSine:
		first.Sine.Hi, second.Sine.Lo = middle(x.Sine), middle(x.Sine)
	default:
		return nil
	}
	return []api.BandPiece{first, second}
}

// visitor is told of a part, and by how many cuts it arose. It returns how the part is to be halved, and whether
// to go on at all.
type visitor func(x api.BandPiece, cuts int) (cut int, on bool)

// walk visits a part, and then one half after the other; it says whether it came to the end.
func walk(x api.BandPiece, cuts int, visit visitor) bool {
	cut, on := visit(x, cuts)
	if !on {
		return false
	}
	for _, half := range halves(x, cut) {
		if !walk(half, cuts+1, visit) {
			return false
		}
	}
	return true
}
