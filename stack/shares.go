package stack

import (
	"etalon/api"
	"etalon/span"
	"etalon/whole"
)

// SharesOf returns the shares of an ask.
func SharesOf(a api.StackAsk) (api.StackShares, api.Errno) {
	return answered(a, api.OK, func(k *ask) api.StackShares { return k.shares() })
}

func (k *ask) shares() api.StackShares {
	// The errors of the reflected amplitude come first, so the factors of the transmitted one wait for it.
	var layers []light
	m := k.meeting(func(l light) { layers = append(layers, l) })
	reflected := k.energy(k.reflected(m))
	all := oneBall()
	for _, l := range layers {
		all = k.times(all, k.factor(l))
	}
	transmitted := k.energy(k.transmitted(m, all))
	front, behind := k.partsOf(m.front)[0], k.partsOf(m.behind)[0]
	if front.Lo <= 0 {
		k.stop(api.ErrZero)
	}
	switch {
	case k.errno != api.OK:
		return api.StackShares{}
	case m.stopped:
		transmitted = api.Range{}
	default:
		transmitted = carried(transmitted, atLeastZero(behind), front)
	}
	shares := api.StackShares{Reflected: cut(reflected), Transmitted: cut(transmitted)}
	if k.hasLoss() {
		shares.Absorbed = restOf(shares)
	}
	return shares
}

// hasLoss says whether a medium has a loss.
func (k *ask) hasLoss() bool {
	for _, box := range k.Layers {
		if box.Loss != 0 {
			return true
		}
	}
	return k.On.Loss != 0
}

// carried returns the share that an energy carries away behind, by the real parts of the admittances there and in front.
func carried(energy, behind, front api.Range) api.Range {
	return api.Range{
		Lo: whole.Lower(behind.Lo, energy.Lo, front.Hi),
		Hi: whole.Upper(behind.Hi, energy.Hi, front.Lo),
	}
}

// cut returns a range no end of which is greater than One.
func cut(r api.Range) api.Range {
	return api.Range{Lo: min(r.Lo, api.One), Hi: min(r.Hi, api.One)}
}

// restOf returns what is neither reflected nor transmitted.
func restOf(s api.StackShares) api.Range {
	return atLeastZero(api.Range{
		Lo: api.One - s.Reflected.Hi - s.Transmitted.Hi,
		Hi: api.One - s.Reflected.Lo - s.Transmitted.Lo,
	})
}

// CheckSlab returns the first error of a thick slab.
func CheckSlab(x api.StackSlab) api.Errno {
	for _, s := range [3]api.StackShares{x.Front, x.Inside, x.Back} {
		for _, r := range [3]api.Range{s.Reflected, s.Transmitted, s.Absorbed} {
			if e := checkShare(r); e != api.OK {
				return e
			}
		}
	}
	return checkShare(x.Inner)
}

func checkShare(r api.Range) api.Errno { return span.Check(r, 0, api.One) }

// Slab returns the shares of a thick slab.
func Slab(x api.StackSlab) (api.StackShares, api.Errno) {
	if e := CheckSlab(x); e != api.OK {
		return api.StackShares{}, e
	}
	back := shareOf(shareOf(x.Inner, x.Inner), x.Back.Reflected)
	loop := shareOf(x.Inside.Reflected, back)
	if loop.Hi == api.One {
		return api.StackShares{}, api.ErrBreak
	}
	returned := through(loop, shareOf(shareOf(x.Front.Transmitted, back), x.Inside.Transmitted))
	passed := through(loop, shareOf(shareOf(x.Front.Transmitted, x.Inner), x.Back.Transmitted))
	first := x.Front.Reflected
	shares := api.StackShares{
		Reflected:   cut(api.Range{Lo: first.Lo + returned.Lo, Hi: first.Hi + returned.Hi}),
		Transmitted: cut(passed),
	}
	shares.Absorbed = restOf(shares)
	return shares, api.OK
}

// shareOf returns the product of two shares.
func shareOf(a, b api.Range) api.Range {
	return api.Range{Lo: whole.Lower(a.Lo, b.Lo, api.One), Hi: whole.Upper(a.Hi, b.Hi, api.One)}
}

// through returns what a share comes to when a loop (less than One) returns it again and again.
func through(loop, a api.Range) api.Range {
	return api.Range{
		Lo: whole.Lower(a.Lo, api.One, api.One-loop.Lo),
		Hi: whole.Upper(a.Hi, api.One, api.One-loop.Hi),
	}
}
