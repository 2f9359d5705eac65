package fit_test

import (
	"math"
	"math/rand/v2"
	"reflect"
	"slices"
	"testing"

	"etalon/api"
	"etalon/fit"
)

const one = api.One

// span returns a range.
func span(lo, hi int) api.Range { return api.Range{Lo: lo, Hi: hi} }

// just returns the range of a single number.
func just(n int) api.Range { return span(n, n) }

// box returns the box of a layer without loss.
func box(index, thick api.Range) api.LayerBox { return api.LayerBox{Index: index, Thick: thick} }

// lossy returns a box with a loss.
func lossy(b api.LayerBox, loss int) api.LayerBox {
	b.Loss = loss
	return b
}

// film returns a layer without loss.
func film(index, thick int) api.Layer { return api.Layer{Index: index, Thick: thick} }

// boxes returns a list of boxes.
func boxes(l ...api.LayerBox) []api.LayerBox { return l }

// boxesOf returns the boxes in which just some layers lie.
func boxesOf(layers []api.Layer) []api.LayerBox {
	var l []api.LayerBox
	for _, x := range layers {
		l = append(l, lossy(box(just(x.Index), just(x.Thick)), x.Loss))
	}
	return l
}

// setting returns a setting.
func setting(wave, index, sine int) api.FitSetting {
	return api.FitSetting{Wave: wave, At: api.Incidence{Index: index, Sine: sine}}
}

// on returns a substrate without loss.
func on(index int) api.Substrate { return api.Substrate{Index: index} }

// reading returns a reading with a setting.
func reading(q api.FitSetting, n, c, s api.Range) api.Reading {
	return api.Reading{Name: "p", Wave: q.Wave, At: q.At, N: n, C: c, S: s}
}

// readingOf returns a reading with all three ranges at once, each one wider by a margin.
func readingOf(q api.FitSetting, told [3]api.Range, margin int) api.Reading {
	wide := func(r api.Range) api.Range {
		return span(max(r.Lo-margin, -one), min(r.Hi+margin, one))
	}
	return reading(q, wide(told[0]), wide(told[1]), wide(told[2]))
}

// anything is a reading that every sample explains, if this can be told.
func anything(q api.FitSetting) api.Reading {
	return reading(q, span(-one, one), span(-one, one), span(-one, one))
}

// straight is the setting of the chapter's examples.
func straight() api.FitSetting { return setting(4000, 10000, 0) }

// halfWave is the boxes of the chapter's first example.
func halfWave() []api.LayerBox { return boxes(box(just(20000), just(1000))) }

// task returns a task on the substrate of the chapter's examples.
func task(l []api.LayerBox, readings ...api.Reading) api.FitTask {
	return api.FitTask{Boxes: l, On: on(40000), Readings: readings}
}

// untold is a setting that no boxes on the substrate 15000 have readings with: light along the surface behind them has
// no admittance in the plane of incidence.
func untold() api.FitSetting { return setting(4000, 20000, 7500) }

// many returns a task whose trees are cut down to single thicknesses, of which there are so many: its reading can
// never be told.
func many(thicknesses int) api.FitTask {
	t := task(boxes(box(just(20000), span(1000, 999+thicknesses))), anything(untold()))
	t.On = on(15000)
	return t
}

// must returns a result that has no error.
func must[T any](t *testing.T) func(x T, e api.Errno) T {
	return func(x T, e api.Errno) T {
		t.Helper()
		if e != api.OK {
			t.Fatalf("the error %d", e)
		}
		return x
	}
}

// wantSame reports a result or an error that is not the expected one.
func wantSame[T any](t *testing.T, name string, got T, e api.Errno, want T, errno api.Errno) {
	t.Helper()
	if !reflect.DeepEqual(got, want) || e != errno {
		t.Errorf("%s: %v, %d; want %v, %d", name, got, e, want, errno)
	}
}

// wantError reports an error that is not the expected one.
func wantError(t *testing.T, name string, e, want api.Errno) {
	t.Helper()
	if e != want {
		t.Errorf("%s: %d; want %d", name, e, want)
	}
}

// wantSeen reports that too few results were looked at.
func wantSeen(t *testing.T, name string, seen, least int) {
	t.Helper()
	if seen < least {
		t.Errorf("only %d of %s", seen, name)
	}
}

// defect is something wrong with an argument: what makes it wrong, the error, and the number beside this.
type defect[T any] struct {
	name   string
	do     func(x *T)
	errno  api.Errno
	number int
}

// notTold stands for the number of a function that tells none.
const notTold = -1

// isTold says whether a number and an error are those of a defect.
func (d defect[T]) isTold(n int, e api.Errno) bool {
	return (n == d.number || n == notTold) && e == d.errno
}

// wantDefects asks for the error of each defect, and for that of the first one wherever there are two. The defects stand
// in the order of their errors; done last, the first one of two stays.
func wantDefects[T any](t *testing.T, name string, right func() T, defects []defect[T], call func(x T) (int, api.Errno)) {
	t.Helper()
	asked := func(told defect[T], all ...defect[T]) {
		t.Helper()
		x := right()
		for _, d := range slices.Backward(all) {
			d.do(&x)
		}
		if n, e := call(x); !told.isTold(n, e) {
			t.Errorf("%s, %s, the first of %d: %d, %d; want %d, %d", name, told.name, len(all), n, e, told.number, told.errno)
		}
	}
	asked(defect[T]{name: "all right"})
	for i, first := range defects {
		asked(first, first)
		for _, second := range defects[i+1:] {
			asked(first, first, second)
		}
	}
}

// errorOf is a call that returns the error of a function, beside which its zero value must stand.
func errorOf[T, R any](t *testing.T, of func(x T) (R, api.Errno)) func(x T) (int, api.Errno) {
	return func(x T) (int, api.Errno) {
		got, e := of(x)
		wantNone[R](t, "beside an error")(got, e)
		return notTold, e
	}
}

// wantNone reports a result beside an error.
func wantNone[R any](t *testing.T, name string) func(got R, e api.Errno) {
	return func(got R, e api.Errno) {
		t.Helper()
		if e != api.OK && !reflect.ValueOf(&got).Elem().IsZero() {
			t.Fatalf("%s: %v beside the error %d", name, got, e)
		}
	}
}

// within returns the defects of a part of an argument.
func within[T, P any](name string, part func(x *T) *P, defects []defect[P]) []defect[T] {
	var l []defect[T]
	for _, d := range defects {
		l = append(l, defect[T]{name + ": " + d.name, func(x *T) { d.do(part(x)) }, d.errno, d.number})
	}
	return l
}

// beyond returns the defects of a number that is to be from least to most.
func beyond(least, most int) []defect[int] {
	var l []defect[int]
	for _, n := range []int{least - 1, most + 1, math.MinInt, math.MaxInt} {
		l = append(l, defect[int]{"beyond", func(x *int) { *x = n }, api.ErrRange, 0})
	}
	return l
}

// boxDefects returns the defects of a box with a number.
func boxDefects(number int) []defect[api.LayerBox] {
	l := slices.Concat(
		within("Index.Lo", func(b *api.LayerBox) *int { return &b.Index.Lo }, beyond(5000, 80000)),
		within("Index.Hi", func(b *api.LayerBox) *int { return &b.Index.Hi }, beyond(5000, 80000)),
		within("Thick.Lo", func(b *api.LayerBox) *int { return &b.Thick.Lo }, beyond(0, 1000000)),
		within("Thick.Hi", func(b *api.LayerBox) *int { return &b.Thick.Hi }, beyond(0, 1000000)),
		within("Loss", func(b *api.LayerBox) *int { return &b.Loss }, beyond(0, 80000)),
		[]defect[api.LayerBox]{
			{"the order of indices", func(b *api.LayerBox) { b.Index = span(20001, 20000) }, api.ErrOrder, 0},
			{"the order of thicknesses", func(b *api.LayerBox) { b.Thick = span(1, 0) }, api.ErrOrder, 0},
		},
	)
	for i := range l {
		l[i].number = number
	}
	return l
}

// listDefects returns the defects of at least two boxes.
func listDefects() []defect[[]api.LayerBox] {
	at := func(i int) []defect[[]api.LayerBox] {
		return within("a box", func(l *[]api.LayerBox) *api.LayerBox { return &(*l)[i] }, boxDefects(i))
	}
	// Lists of another length stand first, so they are done last.
	return slices.Concat([]defect[[]api.LayerBox]{
		{"no boxes", func(l *[]api.LayerBox) { *l = nil }, api.ErrShape, 0},
		{"an empty list of boxes", func(l *[]api.LayerBox) { *l = boxes() }, api.ErrShape, 0},
		{"7 boxes", func(l *[]api.LayerBox) { *l = slices.Repeat(halfWave(), 7) }, api.ErrLarge, 0},
		{"many wrong boxes", func(l *[]api.LayerBox) { *l = make([]api.LayerBox, 41) }, api.ErrLarge, 0},
	}, at(0), at(1))
}

// substrateDefects returns the defects of a substrate.
func substrateDefects() []defect[api.Substrate] {
	return slices.Concat(
		within("Index", func(x *api.Substrate) *int { return &x.Index }, beyond(5000, 80000)),
		within("Loss", func(x *api.Substrate) *int { return &x.Loss }, beyond(0, 80000)),
	)
}

// settingDefects returns the defects of a setting.
func settingDefects() []defect[api.FitSetting] {
	return slices.Concat(
		within("Wave", func(q *api.FitSetting) *int { return &q.Wave }, beyond(1000, 200000)),
		within("Index", func(q *api.FitSetting) *int { return &q.At.Index }, beyond(5000, 80000)),
		within("Sine", func(q *api.FitSetting) *int { return &q.At.Sine }, beyond(0, 9999)),
	)
}

// readingDefects returns the defects of a reading with a number.
func readingDefects(number int) []defect[api.Reading] {
	rangeDefects := func(name string, part func(r *api.Reading) *api.Range) []defect[api.Reading] {
		return within(name, part, slices.Concat(
			within("Lo", func(r *api.Range) *int { return &r.Lo }, beyond(-one, one)),
			within("Hi", func(r *api.Range) *int { return &r.Hi }, beyond(-one, one)),
			[]defect[api.Range]{{"order", func(r *api.Range) { *r = span(1, 0) }, api.ErrOrder, 0}},
		))
	}
	var l []defect[api.Reading]
	for _, s := range []string{"", "1", "a b", "abcdefghijklm"} {
		l = append(l, defect[api.Reading]{"the name " + s, func(r *api.Reading) { r.Name = s }, api.ErrName, 0})
	}
	l = slices.Concat(l,
		within("Wave", func(r *api.Reading) *int { return &r.Wave }, beyond(1000, 200000)),
		within("Index", func(r *api.Reading) *int { return &r.At.Index }, beyond(5000, 80000)),
		within("Sine", func(r *api.Reading) *int { return &r.At.Sine }, beyond(0, 9999)),
		rangeDefects("N", func(r *api.Reading) *api.Range { return &r.N }),
		rangeDefects("C", func(r *api.Reading) *api.Range { return &r.C }),
		rangeDefects("S", func(r *api.Reading) *api.Range { return &r.S }),
	)
	for i := range l {
		l[i].number = number
	}
	return l
}

// rightTask returns a task of two boxes and two readings.
func rightTask() api.FitTask {
	q := setting(6328, 10000, 5000)
	l := boxes(box(span(20000, 20010), span(990, 1010)), lossy(box(just(14600), span(0, 9)), 3))
	return task(l, anything(straight()), anything(q))
}

// taskDefects returns the defects of a right task, but none of its lengths, with which further numbers may not be there.
func taskDefects() []defect[api.FitTask] {
	at := func(i int) []defect[api.FitTask] {
		return within("a reading", func(x *api.FitTask) *api.Reading { return &x.Readings[i] }, readingDefects(i))
	}
	return slices.Concat(
		within("Boxes", func(x *api.FitTask) *[]api.LayerBox { return &x.Boxes }, listDefects()),
		within("On", func(x *api.FitTask) *api.Substrate { return &x.On }, substrateDefects()),
		[]defect[api.FitTask]{
			{"21 readings", func(x *api.FitTask) { x.Readings = slices.Repeat([]api.Reading{anything(straight())}, 21) }, api.ErrLarge, 0},
			{"many wrong readings", func(x *api.FitTask) { x.Readings = make([]api.Reading, 5000) }, api.ErrLarge, 0},
		},
		at(0), at(1),
	)
}

// draws returns numbers that are the same in every run.
func draws(seed uint64) *rand.Rand { return rand.New(rand.NewPCG(seed, 7)) }

// drawnBetween returns a number from lo to hi.
func drawnBetween(r *rand.Rand, lo, hi int) int { return lo + r.IntN(hi-lo+1) }

// drawnRange returns a range between least and most of a width up to size.
func drawnRange(r *rand.Rand, least, most, size int) api.Range {
	lo := drawnBetween(r, least, most)
	return span(lo, min(most, lo+r.IntN(size+1)))
}

// drawnBoxes returns right boxes, most of them narrow.
func drawnBoxes(r *rand.Rand) []api.LayerBox {
	var l []api.LayerBox
	for range 1 + r.IntN(3)*r.IntN(2) + r.IntN(4)/3*r.IntN(3) {
		b := box(drawnRange(r, 13000, 26000, r.IntN(1<<r.IntN(13))), drawnRange(r, 0, 3000, r.IntN(1<<r.IntN(11))))
		if r.IntN(3) == 0 {
			b.Loss = r.IntN(1 << r.IntN(15))
		}
		l = append(l, b)
	}
	return l
}

// drawnSetting returns a right setting; at some, light is reflected totally.
func drawnSetting(r *rand.Rand) api.FitSetting {
	q := setting(drawnBetween(r, 3000, 12000), 10000, r.IntN(10000))
	if r.IntN(4) == 0 {
		q.At.Index = drawnBetween(r, 10000, 30000)
	}
	return q
}

// drawnSubstrate returns a right substrate.
func drawnSubstrate(r *rand.Rand) api.Substrate {
	x := on(drawnBetween(r, 10000, 50000))
	if r.IntN(2) == 0 {
		x.Loss = r.IntN(30000)
	}
	return x
}

// drawnLayers returns layers that lie in boxes.
func drawnLayers(r *rand.Rand, l []api.LayerBox) []api.Layer {
	var layers []api.Layer
	for _, b := range l {
		layers = append(layers, api.Layer{Index: drawnBetween(r, b.Index.Lo, b.Index.Hi), Loss: b.Loss, Thick: drawnBetween(r, b.Thick.Lo, b.Thick.Hi)})
	}
	return layers
}

// drawnTask returns a right task, and layers in its boxes that explain its readings, where these can be told.
func drawnTask(r *rand.Rand) (api.FitTask, []api.Layer) {
	t := api.FitTask{Boxes: drawnBoxes(r), On: drawnSubstrate(r)}
	layers := drawnLayers(r, t.Boxes)
	for range r.IntN(4) {
		q := drawnSetting(r)
		told, e := fit.Predicted(q, boxesOf(layers), t.On)
		if e != api.OK {
			t.Readings = append(t.Readings, anything(q))
			continue
		}
		t.Readings = append(t.Readings, readingOf(q, told, r.IntN(1<<r.IntN(20))))
	}
	return t, layers
}
