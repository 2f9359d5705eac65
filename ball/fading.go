package ball

import (
	"etalon/api"
	"etalon/whole"
)

// fadeOne stands for 1 in fadings: they are found in parts of 2^30 and told in parts of One.
const fadeOne = 1 << 30

// fadeStep is up to which exponent the series is used: a greater one is halved first.
const fadeStep = 1 << 20

// Two pi lies between these two, divided by 10^7.
const (
	twoPiDown = 62831853
	twoPiUp   = 62831854
	twoPiDen  = 10000000
)

// halvings returns how often an exponent is to be halved.
func halvings(x int) int {
	k := 0
	for x > fadeStep<<k {
		k++
	}
	return k
}

// fadingUp returns an upper bound of what fades by so many parts (from 0 to MostFade).
func fadingUp(parts int) int {
	x := whole.Lower(256*parts, twoPiDown, twoPiDen)
	k := halvings(x)
	u := whole.Lower(x, 1, 1<<k)
	f := fadeOne - u + whole.Upper(u, u, 2*fadeOne)
	for range k {
		f = whole.Upper(f, f, fadeOne)
	}
	return f
}

// fadingDown returns a lower bound of what fades by so many parts (from 0 to MostFade).
func fadingDown(parts int) int {
	x := whole.Upper(256*parts, twoPiUp, twoPiDen)
	k := halvings(x)
	u := whole.Upper(x, 1, 1<<k)
	f := fadeOne - u + whole.Lower(u, u, 2*fadeOne) - whole.Upper(u*u, u, 6*fadeOne*fadeOne)
	for range k {
		f = whole.Lower(f, f, fadeOne)
	}
	return f
}

// Fading returns the enclosure of what fades by parts of a turn.
func Fading(r api.Range) (api.Range, api.Errno) {
	if r.Lo < 0 || max(r.Lo, r.Hi) > api.MostParts {
		return api.Range{}, api.ErrRange
	}
	if r.Lo > r.Hi {
		return api.Range{}, api.ErrOrder
	}
	told := api.Range{Lo: 0, Hi: 1}
	if r.Hi <= api.MostFade {
		told.Lo = max(whole.Lower(fadingDown(r.Hi), api.One, fadeOne), 0)
	}
	if r.Lo <= api.MostFade {
		told.Hi = min(whole.Upper(fadingUp(r.Lo), api.One, fadeOne), api.One)
	}
	return told, api.OK
}
