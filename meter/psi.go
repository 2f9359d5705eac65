package meter

import (
	"iter"

	"etalon/api"
	"etalon/ball"
)

// mostPsi is the greatest psi, a quarter of a turn.
const mostPsi = api.PsiParts / 4

// cosines yields each psi, with the enclosure of the cosine of twice the angle.
func cosines() iter.Seq2[int, api.Range] {
	return func(yield func(psi int, cosine api.Range) bool) {
		for psi := range mostPsi + 1 {
			// Up to a quarter of a turn neither of both has an error.
			unit, _ := ball.Unit(psi, api.PsiParts/2)
			parts, _ := ball.PartsOf(unit)
			if !yield(psi, parts[0]) {
				return
			}
		}
	}
}

// psiWhere yields each psi of whose cosine a condition holds.
func psiWhere(holds func(cosine api.Range) bool) iter.Seq[int] {
	return func(yield func(psi int) bool) {
		for psi, cosine := range cosines() {
			if holds(cosine) && !yield(psi) {
				return
			}
		}
	}
}

// PsiOf returns psi of a reading, in parts of a turn.
func PsiOf(r api.Reading) (api.Range, api.Errno) {
	if e := CheckReading(r); e != api.OK {
		return api.Range{}, e
	}
	told := api.Range{Lo: 0, Hi: mostPsi}
	for psi := range psiWhere(func(cosine api.Range) bool { return cosine.Lo >= r.N.Hi }) {
		told.Lo = psi
	}
	for psi := range psiWhere(func(cosine api.Range) bool { return cosine.Hi <= r.N.Lo }) {
		told.Hi = psi
		break
	}
	return told, api.OK
}
