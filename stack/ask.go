package stack

import (
	"iter"
	"slices"

	"etalon/api"
	"etalon/span"
	"etalon/whole"
)

// mostSine is the greatest sine: light along the layers is not asked for.
const mostSine = api.IndexOne - 1

// CheckAsk returns the first error of an ask, with the number of the layer (from 1 on).
func CheckAsk(a api.StackAsk) (int, api.Errno) {
	if e := checkLight(a); e != api.OK {
		return 0, e
	}
	if len(a.Layers) > api.MaxLayers {
		return 0, api.ErrLarge
	}
	for i, box := range a.Layers {
		if e := checkBox(box); e != api.OK {
			return i + 1, e
		}
	}
	if !isMaterial(a.On.Index, a.On.Loss) {
		return 0, api.ErrRange
	}
	return 0, api.OK
}

// checkLight checks what an ask says ahead of its layers.
func checkLight(a api.StackAsk) api.Errno {
	switch {
	case !whole.Within(a.Index, api.LeastIndex, api.MaxIndex) || !span.Within(a.Sine, 0, mostSine):
		return api.ErrRange
	case a.Sine.Lo > a.Sine.Hi:
		return api.ErrOrder
	case a.Polar != api.PolarS && a.Polar != api.PolarP:
		return api.ErrKind
	case !span.Within(a.Wave, api.LeastWave, api.MaxWave):
		return api.ErrRange
	case a.Wave.Lo > a.Wave.Hi:
		return api.ErrOrder
	}
	return api.OK
}

func checkBox(x api.LayerBox) api.Errno {
	if !span.Within(x.Index, api.LeastIndex, api.MaxIndex) || !span.Within(x.Thick, 0, api.MaxThick) || !whole.Within(x.Loss, 0, api.MaxIndex) {
		return api.ErrRange
	}
	if x.Index.Lo > x.Index.Hi || x.Thick.Lo > x.Thick.Hi {
		return api.ErrOrder
	}
	return api.OK
}

// OtherSide returns the ask from the other side.
func OtherSide(a api.StackAsk) (api.StackAsk, api.Errno) {
	if _, e := CheckAsk(a); e != api.OK {
		return api.StackAsk{}, e
	}
	if a.On.Loss != 0 {
		return api.StackAsk{}, api.ErrKind
	}
	lo, hi := a.Index*a.Sine.Lo, a.Index*a.Sine.Hi
	if lo%a.On.Index != 0 || hi%a.On.Index != 0 {
		return api.StackAsk{}, api.ErrUnit
	}
	sine := api.Range{Lo: lo / a.On.Index, Hi: hi / a.On.Index}
	if !span.Within(sine, 0, mostSine) {
		return api.StackAsk{}, api.ErrRange
	}
	layers := slices.Clone(a.Layers)
	slices.Reverse(layers)
	return api.StackAsk{
		Index: a.On.Index, Sine: sine, Polar: a.Polar, Wave: a.Wave,
		Layers: layers, On: api.Substrate{Index: a.Index},
	}, api.OK
}

// ask is a right ask with a calculator.
type ask struct {
	calculator
	api.StackAsk
}

// answered returns what find makes of a right ask, or the first error: of the ask, of the other arguments
// (further), of the operations.
func answered[T any](a api.StackAsk, further api.Errno, find func(k *ask) T) (T, api.Errno) {
	var none T
	if _, e := CheckAsk(a); e != api.OK {
		return none, e
	}
	if further != api.OK {
		return none, further
	}
	k := &ask{StackAsk: a}
	found := find(k)
	if k.errno != api.OK {
		return none, k.errno
	}
	return found, api.OK
}

// missingMedium is the error of a medium's number.
func missingMedium(a api.StackAsk, number int) api.Errno {
	if !whole.Within(number, 0, len(a.Layers)+1) {
		return api.ErrMissing
	}
	return api.OK
}

// missingLayer is the error of a layer's number.
func missingLayer(a api.StackAsk, number int) api.Errno {
	if !whole.Within(number, 1, len(a.Layers)) {
		return api.ErrMissing
	}
	return api.OK
}

// layers yields the light in each layer, from the front on, until an operation has an error.
func (k *ask) layers() iter.Seq[light] {
	return func(yield func(l light) bool) {
		for i := range k.Layers {
			if k.errno != api.OK || !yield(k.lightIn(i+1)) {
				return
			}
		}
	}
}

// last returns the number of the medium that the layers lie on.
func (k *ask) last() int { return len(k.Layers) + 1 }
