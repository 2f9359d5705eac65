package stack_test

import (
	"math"
	"math/rand/v2"
	"slices"
	"strings"
	"testing"

	"etalon/api"
	"etalon/stack"
)

const (
	one  = api.One
	most = api.MaxBall
)

// at returns a ball by the parts of its centre and its radius.
func at(x, y, r int) api.Ball { return api.Ball{Z: complex(float64(x), float64(y)), R: r} }

// span returns a range.
func span(lo, hi int) api.Range { return api.Range{Lo: lo, Hi: hi} }

// just returns the range of a single number.
func just(n int) api.Range { return span(n, n) }

// film returns a layer of a stack.
func film(name string, thick int) api.StackLayer { return api.StackLayer{Name: name, Thick: thick} }

// part returns layers that stand once, from the first one to the last one.
func part(layers ...api.StackLayer) api.StackPart { return api.StackPart{Layers: layers, Times: 1} }

// often returns a part that stands so many times.
func often(p api.StackPart, times int) api.StackPart {
	p.Times = times
	return p
}

// back returns a part that stands from the last layer to the first one.
func back(p api.StackPart) api.StackPart {
	p.Back = true
	return p
}

// films returns so many layers.
func films(many int) []api.StackLayer {
	l := make([]api.StackLayer, many)
	for i := range l {
		l[i] = film("a", i)
	}
	return l
}

// box returns the box of a single layer without loss.
func box(index, thick int) api.LayerBox { return api.LayerBox{Index: just(index), Thick: just(thick)} }

// lossy returns a box with a loss.
func lossy(b api.LayerBox, loss int) api.LayerBox {
	b.Loss = loss
	return b
}

// straight returns an ask of a single wavelength, straight from index 10000.
func straight(wave, on int, layers ...api.LayerBox) api.StackAsk {
	return api.StackAsk{Index: 10000, Wave: just(wave), Layers: layers, On: api.Substrate{Index: on}}
}

// aslant returns the ask at a sine.
func aslant(a api.StackAsk, sine int) api.StackAsk {
	a.Sine = just(sine)
	return a
}

// inPlane returns the ask with the field in the plane of incidence.
func inPlane(a api.StackAsk) api.StackAsk {
	a.Polar = api.PolarP
	return a
}

// quarter is the chapter's second example: a quarter wave that reflects nothing.
func quarter() api.StackAsk { return straight(4000, 40000, box(20000, 500)) }

// wantSame reports a result or an error that is not the expected one.
func wantSame[T comparable](t *testing.T, name string, got T, e api.Errno, want T, errno api.Errno) {
	t.Helper()
	if got != want || e != errno {
		t.Errorf("%s: %v, %d; want %v, %d", name, got, e, want, errno)
	}
}

// wantList reports a list or an error that is not the expected one.
func wantList[T comparable](t *testing.T, name string, got []T, e api.Errno, want []T, errno api.Errno) {
	t.Helper()
	if !slices.Equal(got, want) || e != errno {
		t.Errorf("%s: %v, %d; want %v, %d", name, got, e, want, errno)
	}
}

// sameParts says whether two stacks are the same.
func sameParts(a, b []api.StackPart) bool {
	return slices.EqualFunc(a, b, func(x, y api.StackPart) bool {
		return slices.Equal(x.Layers, y.Layers) && x.Times == y.Times && x.Back == y.Back
	})
}

// wantParts reports a stack or an error that is not the expected one.
func wantParts(t *testing.T, name string, got []api.StackPart, e api.Errno, want []api.StackPart, errno api.Errno) {
	t.Helper()
	if !sameParts(got, want) || e != errno {
		t.Errorf("%.80q: %v, %d; want %v, %d", name, got, e, want, errno)
	}
}

// sameAsk says whether two asks are the same.
func sameAsk(a, b api.StackAsk) bool {
	return a.Index == b.Index && a.Sine == b.Sine && a.Polar == b.Polar && a.Wave == b.Wave && a.On == b.On && slices.Equal(a.Layers, b.Layers)
}

// wrongStack is what CheckParts refuses, with the number that it tells and its error.
type wrongStack struct {
	name  string
	l     []api.StackPart
	part  int
	errno api.Errno
}

func wrongStacks() []wrongStack {
	right := part(film("a", 0))
	second := func(p api.StackPart) []api.StackPart { return []api.StackPart{right, p, {}} }
	return []wrongStack{
		{"too many parts", slices.Repeat([]api.StackPart{right}, 21), 0, api.ErrLarge},
		{"too many parts ahead of wrong ones", make([]api.StackPart, 21), 0, api.ErrLarge},
		{"no layers", []api.StackPart{{Times: 1}}, 0, api.ErrShape},
		{"an empty list of layers", []api.StackPart{{Layers: []api.StackLayer{}, Times: 1}}, 0, api.ErrShape},
		{"no layers ahead of no times", []api.StackPart{{}}, 0, api.ErrShape},
		{"no layers in the second part", second(api.StackPart{Times: 1}), 1, api.ErrShape},
		{"no name", second(part(film("", 0))), 1, api.ErrName},
		{"a long name", second(part(film("abcdefghijklm", 0))), 1, api.ErrName},
		{"a name of other bytes", second(part(film("a b", 0))), 1, api.ErrName},
		{"a name with a digit in front", second(part(film("1a", 0))), 1, api.ErrName},
		{"a name of letters beyond", second(part(film("é", 0))), 1, api.ErrName},
		{"no name ahead of its thickness", second(part(film("", -1))), 1, api.ErrName},
		{"a thickness below 0", second(part(film("a", -1))), 1, api.ErrRange},
		{"a great thickness", second(part(film("a", 1000001))), 1, api.ErrRange},
		{"the greatest thickness", second(part(film("a", math.MaxInt))), 1, api.ErrRange},
		{"the least thickness", second(part(film("a", math.MinInt))), 1, api.ErrRange},
		{"layers one by one", second(part(film("a", -1), film("", 0))), 1, api.ErrRange},
		{"the last layer", second(part(film("a", 1), film("b", 1), film("c d", 1))), 1, api.ErrName},
		{"a layer ahead of the times", second(often(part(film("a", 1), film("", 0)), 0)), 1, api.ErrName},
		{"a layer ahead of too many", []api.StackPart{part(append(films(41), film("", 0))...)}, 0, api.ErrName},
		{"no times", second(often(right, 0)), 1, api.ErrRange},
		{"times below 0", second(often(right, -1)), 1, api.ErrRange},
		{"too many times", second(often(right, 41)), 1, api.ErrRange},
		{"the most times", second(often(right, math.MaxInt)), 1, api.ErrRange},
		{"the least times", second(often(right, math.MinInt)), 1, api.ErrRange},
		{"times ahead of too many layers", []api.StackPart{often(part(films(41)...), 41)}, 0, api.ErrRange},
		{"too many layers", []api.StackPart{part(films(41)...), {}}, 0, api.ErrLarge},
		{"too many layers by their times", []api.StackPart{often(part(films(21)...), 2), {}}, 0, api.ErrLarge},
		{"too many layers together", []api.StackPart{part(films(39)...), right, right, {}}, 2, api.ErrLarge},
		{"too many layers together, by their times", []api.StackPart{often(right, 40), right}, 1, api.ErrLarge},
	}
}

// rightStacks are stacks at the ends of what is right, with their texts.
func rightStacks() map[string][]api.StackPart {
	long := part()
	for range 20 {
		long.Layers = append(long.Layers, film("abcdefghijkl", 1000000))
	}
	twenty := slices.Repeat([]api.StackPart{part(film("a", 7))}, 20)
	return map[string][]api.StackPart{
		"":                                 nil,
		"a:0":                              {part(film("a", 0))},
		"A-z0123456-9:1000000":             {part(film("A-z0123456-9", 1000000))},
		"H:500,L:800*2 H:500~":             {often(part(film("H", 500), film("L", 800)), 2), back(part(film("H", 500)))},
		"H:500 H:500,L:800*2~":             {part(film("H", 500)), back(often(part(film("H", 500), film("L", 800)), 2))},
		"x:1,x:1 x:1":                      {part(film("x", 1), film("x", 1)), part(film("x", 1))},
		"a:1*40":                           {often(part(film("a", 1)), 40)},
		"a:1*39 b:2~":                      {often(part(film("a", 1)), 39), back(part(film("b", 2)))},
		"a:0,a:1,a:2,a:3*10":               {often(part(films(4)...), 10)},
		strings.Repeat("a:7 ", 19) + "a:7": twenty,
		strings.Repeat("abcdefghijkl:1000000,", 19) + "abcdefghijkl:1000000*2~": {back(often(long, 2))},
	}
}

// wrongAsk is what CheckAsk refuses, with the number that it tells and its error.
type wrongAsk struct {
	name  string
	a     api.StackAsk
	layer int
	errno api.Errno
}

// sample is an ask with two layers that everything can be asked of.
func sample() api.StackAsk {
	return api.StackAsk{
		Index: 10000, Sine: span(3000, 3010), Polar: api.PolarP, Wave: span(5000, 5010),
		Layers: []api.LayerBox{
			{Index: span(20000, 20010), Thick: span(600, 602)},
			{Index: span(14000, 14010), Thick: span(900, 902), Loss: 50},
		},
		On: api.Substrate{Index: 15000, Loss: 10},
	}
}

func wrongAsks() []wrongAsk {
	edit := func(change func(a *api.StackAsk)) api.StackAsk {
		a := sample()
		change(&a)
		return a
	}
	second := func(change func(b *api.LayerBox)) api.StackAsk {
		return edit(func(a *api.StackAsk) { change(&a.Layers[1]) })
	}
	var l []wrongAsk
	add := func(name string, a api.StackAsk, layer int, errno api.Errno) {
		l = append(l, wrongAsk{name, a, layer, errno})
	}
	for _, n := range []int{math.MinInt, -1, 4999, 80001, math.MaxInt} {
		add("an index in front", edit(func(a *api.StackAsk) { a.Index = n }), 0, api.ErrRange)
		add("an index behind", edit(func(a *api.StackAsk) { a.On.Index = n }), 0, api.ErrRange)
		add("the end of an index", second(func(b *api.LayerBox) { b.Index.Hi = n }), 2, api.ErrRange)
		add("the beginning of an index", second(func(b *api.LayerBox) { b.Index.Lo = n }), 2, api.ErrRange)
	}
	for _, n := range []int{math.MinInt, -1, 10000, math.MaxInt} {
		add("the end of the sines", edit(func(a *api.StackAsk) { a.Sine.Hi = n }), 0, api.ErrRange)
		add("the beginning of the sines", edit(func(a *api.StackAsk) { a.Sine.Lo = n }), 0, api.ErrRange)
	}
	for _, n := range []int{math.MinInt, -1, 2, math.MaxInt} {
		add("a polarisation", edit(func(a *api.StackAsk) { a.Polar = n }), 0, api.ErrKind)
	}
	for _, n := range []int{math.MinInt, 0, 999, 200001, math.MaxInt} {
		add("the end of the wavelengths", edit(func(a *api.StackAsk) { a.Wave.Hi = n }), 0, api.ErrRange)
		add("the beginning of the wavelengths", edit(func(a *api.StackAsk) { a.Wave.Lo = n }), 0, api.ErrRange)
	}
	for _, n := range []int{math.MinInt, -1, 1000001, math.MaxInt} {
		add("the end of a thickness", second(func(b *api.LayerBox) { b.Thick.Hi = n }), 2, api.ErrRange)
		add("the beginning of a thickness", second(func(b *api.LayerBox) { b.Thick.Lo = n }), 2, api.ErrRange)
	}
	for _, n := range []int{math.MinInt, -1, 80001, math.MaxInt} {
		add("a loss", second(func(b *api.LayerBox) { b.Loss = n }), 2, api.ErrRange)
		add("a loss behind", edit(func(a *api.StackAsk) { a.On.Loss = n }), 0, api.ErrRange)
	}
	add("nothing", api.StackAsk{}, 0, api.ErrRange)
	add("sines the other way round", edit(func(a *api.StackAsk) { a.Sine = span(3001, 3000) }), 0, api.ErrOrder)
	add("wavelengths the other way round", edit(func(a *api.StackAsk) { a.Wave = span(5001, 5000) }), 0, api.ErrOrder)
	add("an index the other way round", second(func(b *api.LayerBox) { b.Index = span(14001, 14000) }), 2, api.ErrOrder)
	add("a thickness the other way round", second(func(b *api.LayerBox) { b.Thick = span(901, 900) }), 2, api.ErrOrder)
	add("too many layers", edit(func(a *api.StackAsk) { a.Layers = make([]api.LayerBox, 41) }), 0, api.ErrLarge)
	add("the range of the sines ahead of their order", edit(func(a *api.StackAsk) { a.Sine = span(10000, 0) }), 0, api.ErrRange)
	add("the order of the sines ahead of the polarisation", edit(func(a *api.StackAsk) { a.Sine, a.Polar = span(1, 0), 2 }), 0, api.ErrOrder)
	add("the polarisation ahead of the wavelengths", edit(func(a *api.StackAsk) { a.Polar, a.Wave.Lo = 2, 0 }), 0, api.ErrKind)
	add("the range of the wavelengths ahead of their order", edit(func(a *api.StackAsk) { a.Wave = span(200001, 1000) }), 0, api.ErrRange)
	add("the order of the wavelengths ahead of the layers", edit(func(a *api.StackAsk) { a.Wave, a.Layers = span(5001, 5000), make([]api.LayerBox, 41) }), 0, api.ErrOrder)
	add("the first layer ahead of the second one", edit(func(a *api.StackAsk) { a.Layers[0].Thick.Lo, a.Layers[1].Loss = 603, -1 }), 1, api.ErrOrder)
	add("a thickness ahead of the order of an index", second(func(b *api.LayerBox) { b.Index, b.Thick.Lo = span(14001, 14000), -1 }), 2, api.ErrRange)
	add("a loss ahead of an order", second(func(b *api.LayerBox) { b.Thick, b.Loss = span(901, 900), 80001 }), 2, api.ErrRange)
	add("a layer ahead of what it lies on", edit(func(a *api.StackAsk) { a.Layers[1].Loss, a.On.Index = 80001, 0 }), 2, api.ErrRange)
	return l
}

// oneAsk is a function of an ask; it returns its error, and whether the result beside it is the zero value.
type oneAsk struct {
	name string
	call func(a api.StackAsk) (api.Errno, bool)
}

func told[T comparable](got T, e api.Errno) (api.Errno, bool) {
	var none T
	return e, got == none
}

// onesOfAsks returns the functions of an ask; those of a number are asked for it.
func onesOfAsks(number int) []oneAsk {
	return []oneAsk{
		{"NormalIndex", func(a api.StackAsk) (api.Errno, bool) { return told(stack.NormalIndex(a, number)) }},
		{"Admittance", func(a api.StackAsk) (api.Errno, bool) { return told(stack.Admittance(a, number)) }},
		{"PartsOfLayer", func(a api.StackAsk) (api.Errno, bool) { return told(stack.PartsOfLayer(a, number)) }},
		{"Factors", func(a api.StackAsk) (api.Errno, bool) { return told(stack.Factors(a, number)) }},
		{"MatrixOf", func(a api.StackAsk) (api.Errno, bool) { return told(stack.MatrixOf(a, number)) }},
		{"Paths", func(a api.StackAsk) (api.Errno, bool) { return told(stack.Paths(a, number)) }},
		{"Product", func(a api.StackAsk) (api.Errno, bool) { return told(stack.Product(a)) }},
		{"Reflected", func(a api.StackAsk) (api.Errno, bool) { return told(stack.Reflected(a)) }},
		{"Transmitted", func(a api.StackAsk) (api.Errno, bool) { return told(stack.Transmitted(a)) }},
		{"FromBelow", func(a api.StackAsk) (api.Errno, bool) { return told(stack.FromBelow(a)) }},
		{"SharesOf", func(a api.StackAsk) (api.Errno, bool) { return told(stack.SharesOf(a)) }},
		{"OtherSide", func(a api.StackAsk) (api.Errno, bool) {
			b, e := stack.OtherSide(a)
			return e, sameAsk(b, api.StackAsk{})
		}},
	}
}

// draws returns numbers that are the same in every run.
func draws(seed uint64) *rand.Rand { return rand.New(rand.NewPCG(seed, 3)) }

// drawnBetween returns a number from lo to hi.
func drawnBetween(r *rand.Rand, lo, hi int) int { return lo + r.IntN(hi-lo+1) }

// drawnRange returns a range of at most width more than a single number, between least and most.
func drawnRange(r *rand.Rand, least, most, width int) api.Range {
	lo := drawnBetween(r, least, most)
	return span(lo, min(most, lo+r.IntN(width+1)))
}

// drawnStack returns a right stack.
func drawnStack(r *rand.Rand) []api.StackPart {
	names := [4]string{"a", "B", "c-9", "longest-name"}
	var l []api.StackPart
	for room := api.MaxLayers; len(l) < api.MaxStackParts && r.IntN(6) > 0; {
		layers := 1 + r.IntN(5)
		times := 1 + r.IntN(3)
		if room -= layers * times; room < 0 {
			break
		}
		p := api.StackPart{Times: times, Back: r.IntN(2) == 0}
		for range layers {
			p.Layers = append(p.Layers, film(names[r.IntN(4)], r.IntN(1<<r.IntN(20))))
		}
		l = append(l, p)
	}
	return l
}
