package band_test

import (
	"math"
	"math/rand/v2"
	"slices"
	"testing"

	"etalon/api"
	"etalon/band"
)

// span returns a range.
func span(lo, hi int) api.Range { return api.Range{Lo: lo, Hi: hi} }

// just returns the range of a single number.
func just(n int) api.Range { return span(n, n) }

// piece returns a piece by its wavelengths and its sines.
func piece(wave, sine api.Range) api.BandPiece { return api.BandPiece{Wave: wave, Sine: sine} }

// box returns the box of a single layer without loss.
func box(index, thick int) api.LayerBox { return api.LayerBox{Index: just(index), Thick: just(thick)} }

// of returns a fraction as it is written.
func of(num, den int) api.Frac { return api.Frac{Num: num, Den: den} }

// wantSame reports a result or an error that is not the expected one.
func wantSame[T comparable](t *testing.T, name string, got T, e api.Errno, want T, errno api.Errno) {
	t.Helper()
	if got != want || e != errno {
		t.Errorf("%s: %v, %d; want %v, %d", name, got, e, want, errno)
	}
}

// wantError reports an error that is not the expected one.
func wantError(t *testing.T, name string, e, want api.Errno) {
	t.Helper()
	if e != want {
		t.Errorf("%s: %d; want %d", name, e, want)
	}
}

// reflecting is the demand of the chapter's examples, with other bounds.
func reflecting(least, most int) api.BandDemand {
	return api.BandDemand{Index: 10000, Wave: just(4000), Least: least, Most: most}
}

// over returns a demand on another band.
func over(d api.BandDemand, wave, sine api.Range) api.BandDemand {
	d.Wave, d.Sine = wave, sine
	return d
}

// asking returns a task of demands on layers on an index without loss.
func asking(on int, layers []api.LayerBox, demands ...api.BandDemand) api.BandTask {
	return api.BandTask{Demands: demands, Layers: layers, On: api.Substrate{Index: on}}
}

// quarter is the layers of the chapter's first example: a quarter wave that reflects nothing into index 10000 at 4000.
func quarter() []api.LayerBox { return []api.LayerBox{box(20000, 500)} }

// sampleDemand is a demand in the middle of what is right.
func sampleDemand() api.BandDemand {
	return api.BandDemand{
		Share: api.ShareTransmitted, Polar: api.PolarP, Index: 12000, Sine: span(100, 900), Wave: span(5000, 5400),
		Least: 300, Most: 9000,
	}
}

// sampleTask is a task of three demands, all of which are kept, that everything can be asked of.
func sampleTask() api.BandTask {
	return api.BandTask{
		Demands: []api.BandDemand{sampleDemand(), over(sampleDemand(), span(5000, 5001), just(7)), sampleDemand()},
		Layers: []api.LayerBox{
			{Index: span(20000, 20010), Thick: span(600, 602)},
			{Index: span(14000, 14010), Thick: span(900, 902), Loss: 50},
		},
		On: api.Substrate{Index: 15000, Loss: 10},
	}
}

// sampleSearch is a search whose options are those layers.
func sampleSearch() api.BandSearch {
	t := sampleTask()
	return api.BandSearch{Demands: t.Demands, Options: t.Layers, On: t.On, Most: 1}
}

// wrongDemand is what CheckDemand refuses.
type wrongDemand struct {
	name  string
	d     api.BandDemand
	errno api.Errno
}

// wrongDemands returns wrong demands: each single error, and of two errors the one that is listed first.
func wrongDemands() []wrongDemand {
	var l []wrongDemand
	add := func(name string, errno api.Errno, change func(d *api.BandDemand)) {
		d := sampleDemand()
		change(&d)
		l = append(l, wrongDemand{name, d, errno})
	}
	for _, n := range []int{math.MinInt, -1, 3, math.MaxInt} {
		add("a share", api.ErrKind, func(d *api.BandDemand) { d.Share = n })
	}
	for _, n := range []int{math.MinInt, -1, 2, math.MaxInt} {
		add("a polarisation", api.ErrKind, func(d *api.BandDemand) { d.Polar = n })
	}
	for _, n := range []int{math.MinInt, 0, 4999, 80001, math.MaxInt} {
		add("an index", api.ErrRange, func(d *api.BandDemand) { d.Index = n })
	}
	for _, n := range []int{math.MinInt, -1, 10000, math.MaxInt} {
		add("the beginning of the sines", api.ErrRange, func(d *api.BandDemand) { d.Sine.Lo = n })
		add("the end of the sines", api.ErrRange, func(d *api.BandDemand) { d.Sine.Hi = n })
	}
	for _, n := range []int{math.MinInt, 0, 999, 200001, math.MaxInt} {
		add("the beginning of the wavelengths", api.ErrRange, func(d *api.BandDemand) { d.Wave.Lo = n })
		add("the end of the wavelengths", api.ErrRange, func(d *api.BandDemand) { d.Wave.Hi = n })
	}
	for _, n := range []int{math.MinInt, -1, 10001, math.MaxInt} {
		add("the least share", api.ErrRange, func(d *api.BandDemand) { d.Least = n })
		add("the greatest share", api.ErrRange, func(d *api.BandDemand) { d.Most = n })
	}
	add("the sines the other way round", api.ErrOrder, func(d *api.BandDemand) { d.Sine = span(901, 900) })
	add("the wavelengths the other way round", api.ErrOrder, func(d *api.BandDemand) { d.Wave = span(5001, 5000) })
	add("the bounds the other way round", api.ErrBreak, func(d *api.BandDemand) { d.Least, d.Most = 301, 300 })
	add("a share ahead of the index", api.ErrKind, func(d *api.BandDemand) { d.Share, d.Index = 3, 0 })
	add("a polarisation ahead of the index", api.ErrKind, func(d *api.BandDemand) { d.Polar, d.Index = 2, 0 })
	add("a polarisation ahead of the order of the sines", api.ErrKind, func(d *api.BandDemand) { d.Polar, d.Sine = 2, span(1, 0) })
	add("the index ahead of the order of the sines", api.ErrRange, func(d *api.BandDemand) { d.Index, d.Sine = 0, span(1, 0) })
	add("the range of the sines ahead of their order", api.ErrRange, func(d *api.BandDemand) { d.Sine = span(10000, 0) })
	add("the order of the sines ahead of the wavelengths", api.ErrOrder, func(d *api.BandDemand) { d.Sine, d.Wave.Lo = span(1, 0), 0 })
	add("the range of the wavelengths ahead of their order", api.ErrRange, func(d *api.BandDemand) { d.Wave = span(200001, 1000) })
	add("the order of the wavelengths ahead of the bounds", api.ErrOrder, func(d *api.BandDemand) { d.Wave, d.Least = span(5001, 5000), -1 })
	add("the range of the bounds ahead of their order", api.ErrRange, func(d *api.BandDemand) { d.Least, d.Most = 10001, 0 })
	add("nothing but kinds", api.ErrRange, func(d *api.BandDemand) { *d = api.BandDemand{} })
	return l
}

// rightDemands are demands at the ends of what is right, with their texts.
func rightDemands() map[string]api.BandDemand {
	return map[string]api.BandDemand{
		"reflected s 10000 0 0 4000 4000 0 100":               reflecting(0, 100),
		"transmitted p 12000 100 900 5000 5400 300 9000":      sampleDemand(),
		"absorbed p 80000 0 9999 1000 200000 0 10000":         {Share: 2, Polar: 1, Index: 80000, Sine: span(0, 9999), Wave: span(1000, 200000), Most: 10000},
		"absorbed s 5000 9999 9999 200000 200000 10000 10000": {Share: 2, Index: 5000, Sine: just(9999), Wave: just(200000), Least: 10000, Most: 10000},
		"reflected p 5000 0 0 1000 1000 0 0":                  {Polar: 1, Index: 5000, Wave: just(1000)},
		"transmitted s 10000 0 1 4000 4001 5000 5001":         {Share: 1, Index: 10000, Sine: span(0, 1), Wave: span(4000, 4001), Least: 5000, Most: 5001},
	}
}

// wrongTask is what CheckTask refuses, with the number that it tells.
type wrongTask struct {
	name   string
	t      api.BandTask
	demand int
	errno  api.Errno
}

// wrongLayers are what stack.CheckAsk refuses of layers, each with its error.
func wrongLayers() map[api.LayerBox]api.Errno {
	edit := func(change func(b *api.LayerBox)) api.LayerBox {
		b := box(20000, 500)
		change(&b)
		return b
	}
	l := map[api.LayerBox]api.Errno{
		edit(func(b *api.LayerBox) { b.Index = span(20001, 20000) }):                 api.ErrOrder,
		edit(func(b *api.LayerBox) { b.Thick = span(501, 500) }):                     api.ErrOrder,
		edit(func(b *api.LayerBox) { b.Index, b.Loss = span(20001, 20000), -1 }):     api.ErrRange,
		edit(func(b *api.LayerBox) { b.Index, b.Thick.Hi = span(20001, 20000), -1 }): api.ErrRange,
	}
	for _, n := range []int{math.MinInt, 4999, 80001, math.MaxInt} {
		l[edit(func(b *api.LayerBox) { b.Index.Lo = n })] = api.ErrRange
		l[edit(func(b *api.LayerBox) { b.Index.Hi = n })] = api.ErrRange
	}
	for _, n := range []int{math.MinInt, -1, 1000001, math.MaxInt} {
		l[edit(func(b *api.LayerBox) { b.Thick.Lo = n })] = api.ErrRange
		l[edit(func(b *api.LayerBox) { b.Thick.Hi = n })] = api.ErrRange
	}
	for _, n := range []int{math.MinInt, -1, 80001, math.MaxInt} {
		l[edit(func(b *api.LayerBox) { b.Loss = n })] = api.ErrRange
	}
	return l
}

// wrongSubstrates are what no layers can lie on.
func wrongSubstrates() []api.Substrate {
	return []api.Substrate{
		{}, {Index: 4999}, {Index: 80001}, {Index: math.MinInt}, {Index: math.MaxInt},
		{Index: 15000, Loss: -1}, {Index: 15000, Loss: 80001}, {Index: 15000, Loss: math.MinInt}, {Index: 15000, Loss: math.MaxInt},
	}
}

func wrongTasks() []wrongTask {
	var l []wrongTask
	add := func(name string, demand int, errno api.Errno, change func(t *api.BandTask)) {
		t := sampleTask()
		change(&t)
		l = append(l, wrongTask{name, t, demand, errno})
	}
	add("no demands", 0, api.ErrShape, func(t *api.BandTask) { t.Demands = nil })
	add("an empty list of demands", 0, api.ErrShape, func(t *api.BandTask) { t.Demands = []api.BandDemand{} })
	add("too many demands", 0, api.ErrLarge, func(t *api.BandTask) { t.Demands = slices.Repeat(t.Demands[:1], 9) })
	add("too many demands ahead of wrong ones", 0, api.ErrLarge, func(t *api.BandTask) { t.Demands = make([]api.BandDemand, 9) })
	for _, x := range wrongDemands() {
		add(x.name, 1, x.errno, func(t *api.BandTask) { t.Demands[1], t.Demands[2] = x.d, api.BandDemand{Share: 9} })
		add(x.name+", the last one", 2, x.errno, func(t *api.BandTask) { t.Demands[2] = x.d })
	}
	add("a demand ahead of the layers", 2, api.ErrBreak, func(t *api.BandTask) { t.Demands[2].Least, t.Layers[0].Loss = 9001, -1 })
	add("too many layers", 0, api.ErrLarge, func(t *api.BandTask) { t.Layers = slices.Repeat(t.Layers, 21)[:41] })
	add("too many layers ahead of wrong ones", 0, api.ErrLarge, func(t *api.BandTask) { t.Layers = make([]api.LayerBox, 41) })
	for b, errno := range wrongLayers() {
		add("a layer", 0, errno, func(t *api.BandTask) { t.Layers[1], t.On.Index = b, 0 })
	}
	add("the first layer ahead of the second one", 0, api.ErrOrder, func(t *api.BandTask) { t.Layers[0].Thick.Lo, t.Layers[1].Loss = 603, -1 })
	for _, on := range wrongSubstrates() {
		add("what the layers lie on", 0, api.ErrRange, func(t *api.BandTask) { t.On = on })
	}
	return l
}

// oneTask is a function of a task and a number of a demand; it returns its error, and whether the result beside it
// is the zero value.
type oneTask struct {
	name string
	call func(t api.BandTask, demand int) (api.Errno, bool)
}

func told[T comparable](got T, e api.Errno) (api.Errno, bool) {
	var none T
	return e, got == none
}

// onesOfTasks returns the functions of a task that ask for a demand.
func onesOfTasks() []oneTask {
	return []oneTask{
		{"AnswerAt", func(t api.BandTask, demand int) (api.Errno, bool) {
			return told(band.AnswerAt(t, demand, piece(just(5000), just(7))))
		}},
		{"CheckPoint", func(t api.BandTask, demand int) (api.Errno, bool) {
			return band.CheckPoint(t, api.BandPoint{Demand: demand, Wave: 5000, Sine: 7}), true
		}},
		{"CheckTree", func(t api.BandTask, demand int) (api.Errno, bool) { return told(band.CheckTree(t, demand, nil)) }},
		{"Over", func(t api.BandTask, demand int) (api.Errno, bool) { return told(band.Over(t, demand, 0)) }},
	}
}

// draws returns numbers that are the same in every run.
func draws(seed uint64) *rand.Rand { return rand.New(rand.NewPCG(seed, 4)) }

// drawnBetween returns a number from lo to hi.
func drawnBetween(r *rand.Rand, lo, hi int) int { return lo + r.IntN(hi-lo+1) }

// drawnRange returns a range of at most width more than a single number, between least and most.
func drawnRange(r *rand.Rand, least, most, width int) api.Range {
	lo := drawnBetween(r, least, most)
	return span(lo, min(most, lo+r.IntN(width+1)))
}

// drawnWithin returns a range within another one.
func drawnWithin(r *rand.Rand, all api.Range) api.Range {
	return drawnRange(r, all.Lo, all.Hi, all.Hi-all.Lo)
}

// drawnLayers returns up to so many layers, most of them narrow.
func drawnLayers(r *rand.Rand, many int) []api.LayerBox {
	var l []api.LayerBox
	for range r.IntN(many + 1) {
		b := api.LayerBox{Index: drawnRange(r, 12000, 26000, r.IntN(60)), Thick: drawnRange(r, 0, 1500, r.IntN(8))}
		if r.IntN(4) == 0 {
			b.Loss = r.IntN(300)
		}
		l = append(l, b)
	}
	return l
}

// drawnDemand returns a demand on a band of any shape, whose bounds are near to the share in its middle, so that it
// is not plain whether they are kept.
func drawnDemand(r *rand.Rand, layers []api.LayerBox, on api.Substrate) api.BandDemand {
	widths := [6]int{0, 1, 2, 5, 60, 400}
	d := api.BandDemand{
		Share: r.IntN(3), Polar: r.IntN(2), Index: drawnBetween(r, 10000, 16000),
		Sine: drawnRange(r, 0, 5500, widths[r.IntN(6)]), Wave: drawnRange(r, 3500, 7000, widths[r.IntN(6)]),
		Most: api.ShareOne,
	}
	if r.IntN(3) == 0 {
		d.Sine, d.Wave = drawnRange(r, 0, 1000, 800), drawnRange(r, 3500, 7000, 800)
	}
	t := api.BandTask{Demands: []api.BandDemand{d}, Layers: layers, On: on}
	t.Demands[0] = over(d, just(middle(d.Wave)), just(middle(d.Sine)))
	s, _ := band.Over(t, 0, 0)
	share, room := (s.Lo+s.Hi)*api.ShareOne/(2*api.One), 1<<r.IntN(13)
	if r.IntN(3) > 0 {
		d.Least = max(0, min(api.ShareOne, share-r.IntN(room)+room/8))
	}
	if r.IntN(3) > 0 {
		d.Most = max(d.Least, min(api.ShareOne, share+r.IntN(room)-room/8))
	}
	return d
}

// drawnTask returns a right task.
func drawnTask(r *rand.Rand) api.BandTask {
	t := api.BandTask{Layers: drawnLayers(r, 3), On: api.Substrate{Index: drawnBetween(r, 10000, 40000)}}
	if r.IntN(4) == 0 {
		t.On.Loss = r.IntN(20000)
	}
	for range 1 + r.IntN(3) {
		t.Demands = append(t.Demands, drawnDemand(r, t.Layers, t.On))
	}
	return t
}

// middle returns the half of both ends together, rounded down, of a range of numbers from 0 on.
func middle(r api.Range) int { return (r.Lo + r.Hi) / 2 }

// wantSeen reports what was not seen often enough to tell anything.
func wantSeen(t *testing.T, name string, got, least int) {
	t.Helper()
	if got < least {
		t.Errorf("%s: seen %d times; want %d", name, got, least)
	}
}
