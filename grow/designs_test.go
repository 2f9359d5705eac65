package grow_test

import (
	"math"
	"math/rand/v2"
	"slices"
	"testing"

	"etalon/api"
	"etalon/band"
	"etalon/grow"
)

// film returns a layer without loss.
func film(index, thick int) api.Layer { return api.Layer{Index: index, Thick: thick} }

// box returns a box of a layer without loss.
func box(index int, thick api.Range) api.LayerBox {
	return api.LayerBox{Index: just(index), Thick: thick}
}

// reflecting is a demand at a wavelength: at most so much is reflected.
func reflecting(most int) api.BandDemand {
	return api.BandDemand{Index: 10000, Wave: just(4000), Most: most}
}

// quarter is a task of a layer that is a quarter wave thick with 500: it then reflects nothing.
func quarter(thick int) api.GrowTask {
	return api.GrowTask{Design: []api.Layer{film(20000, thick)}, Demands: []api.BandDemand{reflecting(100)}, On: api.Substrate{Index: 40000}}
}

// pair is a task of two layers, which are a half wave together with 500 each, of which the first one is grown.
func pair(first api.Range, second int) api.GrowTask {
	x := quarter(500)
	x.Design = append(x.Design, film(20000, second))
	x.Grown = []api.Range{first}
	x.On.Index = 10000
	return x
}

// wrongBy returns a task with an error.
func wrongBy(x api.GrowTask, thousandths int) api.GrowTask {
	x.Error = thousandths
	return x
}

// P8.4: Boxes.
func TestBoxes(t *testing.T) {
	design := []api.Layer{film(20000, 1234), {Index: 14600, Loss: 7, Thick: 856}, film(23000, 0)}
	for _, x := range []struct {
		name string
		task api.GrowTask
		want []api.LayerBox
	}{
		{"no layers", api.GrowTask{}, nil},
		{"no layers, the greatest error", api.GrowTask{Error: 1000}, nil},
		{"none is grown", api.GrowTask{Design: design, Error: 10}, []api.LayerBox{
			box(20000, span(1221, 1247)), {Index: just(14600), Thick: span(847, 865), Loss: 7}, box(23000, just(0)),
		}},
		{"one is grown", api.GrowTask{Design: design, Grown: []api.Range{span(1200, 1210)}, Error: 10}, []api.LayerBox{
			box(20000, span(1200, 1210)), {Index: just(14600), Thick: span(847, 865), Loss: 7}, box(23000, just(0)),
		}},
		{"all are grown", api.GrowTask{Design: design, Grown: []api.Range{just(0), span(0, 1000000), just(1000000)}, Error: 1000}, []api.LayerBox{
			box(20000, just(0)), {Index: just(14600), Thick: span(0, 1000000), Loss: 7}, box(23000, just(1000000)),
		}},
		{"no error", api.GrowTask{Design: design[:1]}, []api.LayerBox{box(20000, just(1234))}},
		{"the greatest error", api.GrowTask{Design: []api.Layer{film(5000, 500000)}, Error: 1000}, []api.LayerBox{box(5000, span(0, 1000000))}},
		{"the greatest thickness", api.GrowTask{Design: []api.Layer{{Index: 80000, Loss: 80000, Thick: 1000000}}}, []api.LayerBox{{Index: just(80000), Thick: just(1000000), Loss: 80000}}},
		// Only the thicknesses of the others must be within the limit.
		{"a great one is grown", api.GrowTask{Design: []api.Layer{film(20000, 1000000), film(20000, 1)}, Grown: []api.Range{just(3)}, Error: 1000}, []api.LayerBox{box(20000, just(3)), box(20000, span(0, 2))}},
		{"40 layers", api.GrowTask{Design: slices.Repeat([]api.Layer{film(5000, 9)}, 40)}, slices.Repeat([]api.LayerBox{box(5000, just(9))}, 40)},
	} {
		got, e := grow.Boxes(x.task)
		wantSame(t, x.name, got, e, x.want, api.OK)
	}
}

// P8.4: Released.
func TestReleased(t *testing.T) {
	none := api.BandPoint{}
	broken := quarter(500)
	broken.Design[0].Thick = 0
	second := quarter(500)
	second.Demands = append(second.Demands, api.BandDemand{Index: 10000, Wave: span(7000, 9000), Sine: span(0, 100), Most: 100})
	edge := api.GrowTask{Demands: []api.BandDemand{{Index: 10000, Wave: just(4000), Least: 3600, Most: 3600}}, On: api.Substrate{Index: 40000}}
	bare := edge
	bare.Demands = []api.BandDemand{reflecting(3700)}
	for _, x := range []struct {
		name   string
		task   api.GrowTask
		answer int
		point  api.BandPoint
		errno  api.Errno
	}{
		{"a quarter wave", quarter(500), api.AnswerYes, none, api.OK},
		{"a quarter wave with an error", wrongBy(quarter(500), 24), api.AnswerYes, none, api.OK},
		{"a quarter wave with a great error", wrongBy(quarter(500), 1000), api.AnswerMaybe, none, api.OK},
		{"no layer", broken, api.AnswerNo, api.BandPoint{Wave: 4000}, api.OK},
		{"a demand that is broken", second, api.AnswerNo, api.BandPoint{Demand: 1, Wave: 8000, Sine: 50}, api.OK},
		{"a demand at the edge", edge, api.AnswerMaybe, none, api.OK},
		{"a design without layers", bare, api.AnswerYes, none, api.OK},
		{"both make a half wave", pair(just(480), 520), api.AnswerYes, none, api.OK},
		{"both do not", pair(just(380), 520), api.AnswerNo, api.BandPoint{Wave: 4000}, api.OK},
		{"what is grown counts, not what was to be", pair(span(499, 501), 500), api.AnswerYes, none, api.OK},
		{"a task without demands", api.GrowTask{On: api.Substrate{Index: 15000}}, 0, none, api.ErrShape},
	} {
		answer, point, e := grow.Released(x.task)
		if answer != x.answer || point != x.point || e != x.errno {
			t.Errorf("%s: %d, %v, %d", x.name, answer, point, e)
		}
	}
	grown := pair(just(700), 300)
	grown.Design[0].Thick = 999999
	answer, _, e := grow.Released(grown)
	wantSame(t, "the thickness of a layer that is grown", answer, e, api.AnswerYes, api.OK)
}

// P8.4: Tolerance.
func TestTolerance(t *testing.T) {
	wide := quarter(500)
	wide.Demands = []api.BandDemand{reflecting(10000)}
	all := pair(just(500), 500)
	all.Grown = append(all.Grown, just(500))
	great := quarter(1000000)
	great.Demands = wide.Demands
	for _, x := range []struct {
		name       string
		task       api.GrowTask
		most, want int
		errno      api.Errno
	}{
		{"a quarter wave", quarter(500), 50, 24, api.OK},
		{"just so much", quarter(500), 24, 24, api.OK},
		{"no more is asked for", quarter(500), 23, 23, api.OK},
		{"none is asked for", quarter(500), 0, 0, api.OK},
		{"everything is released", wide, 50, 50, api.OK},
		{"all is grown: errors count no more", all, 50, 50, api.OK},
		{"what is grown has used up some of it", pair(just(480), 500), 50, 12, api.OK},
		{"no error is tolerated", quarter(458), 50, 0, api.OK},
		{"it is not released at all", quarter(457), 50, 0, api.ErrNone},
		{"it is not released at all, nor asked for more", quarter(457), 0, 0, api.ErrNone},
		{"with an error a thickness would be too great", great, 50, 0, api.OK},
		{"the error of the task does not count", wrongBy(quarter(500), 1000), 50, 24, api.OK},
		{"nor a wrong one", wrongBy(quarter(500), math.MinInt), 50, 24, api.OK},
		{"nor one with which a thickness would be too great", wrongBy(great, 1), 50, 0, api.OK},
		{"no demands", api.GrowTask{On: api.Substrate{Index: 15000}}, 50, 0, api.ErrNone},
		{"a wrong demand", api.GrowTask{Demands: []api.BandDemand{{}}, On: api.Substrate{Index: 15000}}, 50, 0, api.ErrNone},
		{"a wrong substrate", api.GrowTask{Demands: wide.Demands}, 50, 0, api.ErrNone},
	} {
		got, e := grow.Tolerance(x.task, x.most)
		wantSame(t, x.name, got, e, x.want, x.errno)
	}
}

// ending returns a task whose layer, of a thickness at an end, is to reflect from least to most.
func ending(thick, least, most int) api.GrowTask {
	x := quarter(thick)
	x.Demands[0].Least, x.Demands[0].Most = least, most
	return x
}

// beyondEnd is a task whose layer would have to be thicker than layers may be: it reflects little from 1000038 on.
func beyondEnd(thick int) api.GrowTask {
	x := quarter(thick)
	x.Demands[0].Wave = just(1200)
	return x
}

// P8.4: Compensated.
func TestCompensated(t *testing.T) {
	for _, x := range []struct {
		name        string
		task        api.GrowTask
		reach, want int
		errno       api.Errno
	}{
		{"it is released", quarter(500), 50, 500, api.OK},
		{"it is released, without reach", quarter(500), 0, 500, api.OK},
		{"it is not, without reach", quarter(457), 0, 0, api.ErrNone},
		{"too thin by one", quarter(457), 50, 458, api.OK},
		{"too thin by one, which is the reach", quarter(457), 1, 458, api.OK},
		{"too thick by one, which is the reach", quarter(543), 1, 542, api.OK},
		{"too thin", quarter(450), 50, 458, api.OK},
		{"too thin by the reach", quarter(450), 8, 458, api.OK},
		{"too thin by one more", quarter(450), 7, 0, api.ErrNone},
		{"too thin by the greatest reach", quarter(408), 50, 458, api.OK},
		{"too thin by one more than that", quarter(407), 50, 0, api.ErrNone},
		{"too thick", quarter(550), 50, 542, api.OK},
		{"too thick by the greatest reach", quarter(592), 50, 542, api.OK},
		{"too thick by one more than that", quarter(593), 50, 0, api.ErrNone},
		{"the first layer was too thin", pair(just(450), 500), 50, 508, api.OK},
		{"it was thinner", pair(just(440), 500), 50, 518, api.OK},
		{"it was too thin", pair(just(400), 500), 50, 0, api.ErrNone},
		{"it was a little too thick", pair(span(520, 530), 500), 50, 500, api.OK},
		// With 473 (468 to 478) each thickness alone would do, but the balls of all of them are too wide.
		{"an error of the others", wrongBy(quarter(450), 10), 50, 474, api.OK},
		// From 0.5 to 1 percent are reflected at 469, and at 531.
		{"of two the lesser one", ending(500, 50, 100), 50, 469, api.OK},
		{"of two the nearer one, below", ending(499, 50, 100), 50, 469, api.OK},
		{"of two the nearer one, above", ending(501, 50, 100), 50, 531, api.OK},
		{"at the least thickness", ending(0, 0, 10000), 50, 0, api.OK},
		{"at the greatest one", ending(1000000, 0, 10000), 50, 1000000, api.OK},
		{"no thickness is below 0", ending(0, 0, 3570), 50, 37, api.OK},
		{"nor between it and the reach", ending(20, 0, 3570), 50, 37, api.OK},
		{"none releases it below", ending(9, 3601, 10000), 50, 0, api.ErrNone},
		{"none is above the greatest one", beyondEnd(999999), 50, 0, api.ErrNone},
		{"only one from the other side", beyondEnd(999805), 50, 999762, api.OK},
		{"no demands", api.GrowTask{Design: []api.Layer{film(20000, 500)}, On: api.Substrate{Index: 15000}}, 50, 0, api.ErrNone},
		{"a wrong substrate", api.GrowTask{Design: []api.Layer{film(20000, 500)}, Demands: []api.BandDemand{reflecting(10000)}}, 50, 0, api.ErrNone},
	} {
		got, e := grow.Compensated(x.task, x.reach)
		wantSame(t, x.name, got, e, x.want, x.errno)
	}
}

// bookBoxes returns the boxes of a right task.
func bookBoxes(x api.GrowTask) []api.LayerBox {
	var l []api.LayerBox
	for i, layer := range x.Design {
		wrong := ceil(by(times(layer.Thick, x.Error), rat(1000)))
		thick := span(max(0, layer.Thick-wrong), layer.Thick+wrong)
		if i < len(x.Grown) {
			thick = x.Grown[i]
		}
		l = append(l, api.LayerBox{Index: just(layer.Index), Thick: thick, Loss: layer.Loss})
	}
	return l
}

// bookReleased says whether a task is released.
func bookReleased(x api.GrowTask) bool {
	answer, _, _, e := band.Answer(api.BandTask{Demands: x.Demands, Layers: bookBoxes(x), On: x.On})
	return answer == api.AnswerYes && e == api.OK
}

// tolerated returns the greatest error up to most with which a task is released, -1 if there is none.
func tolerated(x api.GrowTask, most int) int {
	all := -1
	for thousandths := range most + 1 {
		if bookReleased(wrongBy(x, thousandths)) {
			all = thousandths
		}
	}
	return all
}

// nearest returns the nearest thickness within reach with which a task is released, of two the lesser one, -1 if there
// is none.
func nearest(x api.GrowTask, reach int) int {
	next := len(x.Grown)
	middle, found := x.Design[next].Thick, -1
	x.Design = slices.Clone(x.Design)
	for thick := max(0, middle-reach); thick <= min(1000000, middle+reach); thick++ {
		x.Design[next].Thick = thick
		nearer := found < 0 || max(thick-middle, middle-thick) < max(found-middle, middle-found)
		if nearer && bookReleased(x) {
			found = thick
		}
	}
	return found
}

// drawnTask returns a right task, which is often just released.
func drawnTask(r *rand.Rand) api.GrowTask {
	x := api.GrowTask{On: api.Substrate{Index: drawnBetween(r, 13000, 40000)}}
	for range r.IntN(4) {
		layer := film(drawnBetween(r, 13000, 24000), r.IntN(900))
		if r.IntN(5) == 0 {
			layer.Loss = r.IntN(200)
		}
		if r.IntN(8) == 0 {
			layer.Thick = r.IntN(40)
		}
		x.Design = append(x.Design, layer)
	}
	for _, layer := range x.Design[:r.IntN(len(x.Design)+1)] {
		lo := max(0, layer.Thick+drawnBetween(r, -20, 20))
		x.Grown = append(x.Grown, span(lo, lo+r.IntN(5)*r.IntN(2)))
	}
	if r.IntN(3) == 0 {
		x.Error = r.IntN(30)
	}
	for range 1 + r.IntN(2) {
		x.Demands = append(x.Demands, drawnDemand(r, x))
	}
	return x
}

// drawnDemand returns a demand whose bounds are near to the share in the middle of its band.
func drawnDemand(r *rand.Rand, x api.GrowTask) api.BandDemand {
	d := api.BandDemand{Share: r.IntN(2), Polar: r.IntN(2), Index: 10000, Most: 10000}
	wave, sine := drawnBetween(r, 3500, 8000), r.IntN(5000)
	d.Wave, d.Sine = just(wave), just(sine)
	s, e := band.Over(api.BandTask{Demands: []api.BandDemand{d}, Layers: bookBoxes(wrongBy(x, 0)), On: x.On}, 0, 0)
	if e != api.OK {
		return d
	}
	if r.IntN(3) == 0 {
		d.Wave, d.Sine = span(wave, wave+r.IntN(1<<r.IntN(8))), span(sine, sine+r.IntN(1<<r.IntN(8)))
	}
	share, room := (s.Lo+s.Hi)*10000/(2*api.One), 1<<(4+r.IntN(8))
	if r.IntN(3) > 0 {
		d.Least = max(0, min(10000, share-r.IntN(room)+room/8))
	}
	if r.IntN(3) > 0 {
		d.Most = max(d.Least, min(10000, share+r.IntN(room)-room/8))
	}
	return d
}

// P8.4: all four are those of the definition.
func TestDesignsAgain(t *testing.T) {
	r := draws(40)
	answers, tolerances, changes, none := [3]int{}, 0, 0, 0
	for range 700 {
		x := drawnTask(r)
		boxes, e := grow.Boxes(x)
		wantSame(t, "Boxes", boxes, e, bookBoxes(x), api.OK)
		want, _, point, _ := band.Answer(api.BandTask{Demands: x.Demands, Layers: bookBoxes(x), On: x.On})
		answer, told, e := grow.Released(x)
		if answer != want || told != point || e != api.OK {
			t.Fatalf("%v: %d, %v, %d; want %d, %v", x, answer, told, e, want, point)
		}
		answers[answer]++
		most, reach := r.IntN(51>>r.IntN(5)), r.IntN(51>>r.IntN(3))
		if n := tolerated(x, most); wantFound(t, "Tolerance", n)(grow.Tolerance(x, most)) && n > 0 {
			tolerances++
		}
		if len(x.Grown) == len(x.Design) {
			continue
		}
		next := &x.Design[len(x.Grown)]
		next.Thick = max(0, next.Thick+drawnBetween(r, -30, 30))
		n := nearest(x, reach)
		if !wantFound(t, "Compensated", n)(grow.Compensated(x, reach)) {
			none++
		} else if n != next.Thick {
			changes++
		}
	}
	t.Log(answers, tolerances, changes, none)
	for answer, seen := range answers {
		wantSeen(t, [3]string{"AnswerNo", "AnswerMaybe", "AnswerYes"}[answer], seen, 30)
	}
	wantSeen(t, "tolerances", tolerances, 50)
	wantSeen(t, "other thicknesses", changes, 20)
	wantSeen(t, "tasks that no thickness releases", none, 50)
}

// wantFound asks for a number, or, if it is below 0, for ErrNone; it says whether there is one.
func wantFound(t *testing.T, name string, want int) func(got int, e api.Errno) bool {
	return func(got int, e api.Errno) bool {
		t.Helper()
		if want < 0 {
			wantSame(t, name, got, e, 0, api.ErrNone)
			return false
		}
		wantSame(t, name, got, e, want, api.OK)
		return true
	}
}

// P8.10: a task whose answer is AnswerYes keeps its demands for all thicknesses within its boxes.
func TestReleasedKeeps(t *testing.T) {
	r := draws(41)
	seen := 0
	for range 600 {
		x := drawnTask(r)
		if n, e := grow.Tolerance(x, 8); e == api.OK {
			x.Error = drawnBetween(r, 0, n)
		}
		if !bookReleased(x) {
			continue
		}
		boxes := must[[]api.LayerBox](t)(grow.Boxes(x))
		for range 4 {
			part := slices.Clone(boxes)
			for i, b := range boxes {
				lo := drawnBetween(r, b.Thick.Lo, b.Thick.Hi)
				part[i].Thick = span(lo, drawnBetween(r, lo, b.Thick.Hi))
				if r.IntN(2) == 0 {
					part[i].Thick = just([2]int{b.Thick.Lo, b.Thick.Hi}[r.IntN(2)])
				}
			}
			answer, _, point, e := band.Answer(api.BandTask{Demands: x.Demands, Layers: part, On: x.On})
			if answer == api.AnswerNo || e != api.OK {
				t.Fatalf("%v: %v, %d at %v", x, part, e, point)
			}
			seen++
		}
	}
	wantSeen(t, "parts of boxes", seen, 1000)
}

// rightTask is a task of three layers, of which two are grown.
func rightTask() api.GrowTask {
	x := quarter(500)
	x.Design = []api.Layer{film(20000, 0), {Index: 5000, Loss: 80000, Thick: 1000000}, film(80000, 500)}
	x.Grown = []api.Range{span(0, 1), span(0, 1000000)}
	x.Error = 1000
	return x
}

// taskDefects returns the defects of a task as Boxes tells them, without those of its error.
func taskDefects() []defect[api.GrowTask] {
	l := []defect[api.GrowTask]{
		{"41 layers", func(x *api.GrowTask) { x.Design = slices.Repeat([]api.Layer{film(20000, 500)}, 41) }, api.ErrLarge, 0},
		{"many wrong layers", func(x *api.GrowTask) { x.Design = make([]api.Layer, 5000) }, api.ErrLarge, 0},
	}
	for i := range 3 {
		l = slices.Concat(l,
			within("Index", func(x *api.GrowTask) *int { return &x.Design[i].Index }, beyond(5000, 80000)),
			within("Loss", func(x *api.GrowTask) *int { return &x.Design[i].Loss }, beyond(0, 80000)),
			within("Thick", func(x *api.GrowTask) *int { return &x.Design[i].Thick }, beyond(0, 1000000)),
		)
	}
	l = append(l,
		defect[api.GrowTask]{"more grown than layers", func(x *api.GrowTask) { x.Grown = make([]api.Range, 4) }, api.ErrShape, 0},
		defect[api.GrowTask]{"more wrong ones", func(x *api.GrowTask) { x.Grown = slices.Repeat([]api.Range{span(1, 0)}, 5000) }, api.ErrShape, 0},
	)
	for i := range 2 {
		l = slices.Concat(l, within("Grown", func(x *api.GrowTask) *api.Range { return &x.Grown[i] }, rangeDefects(0, 1000000)))
	}
	return l
}

// errorDefects returns the defects of the error of a task.
func errorDefects() []defect[api.GrowTask] {
	return append(
		within("Error", func(x *api.GrowTask) *int { return &x.Error }, beyond(0, 1000)),
		defect[api.GrowTask]{"a thickness that may be too great", func(x *api.GrowTask) { x.Design[2].Thick = 1000000 }, api.ErrLarge, 0},
	)
}

// demandDefects returns the defects of a task as band.Answer tells them.
func demandDefects() []defect[api.GrowTask] {
	demand := func(name string, errno api.Errno, do func(d *api.BandDemand)) defect[api.GrowTask] {
		return defect[api.GrowTask]{name, func(x *api.GrowTask) {
			if len(x.Demands) == 0 {
				x.Demands = []api.BandDemand{reflecting(100)}
			}
			do(&x.Demands[0])
		}, errno, 0}
	}
	return slices.Concat([]defect[api.GrowTask]{
		{"no demands", func(x *api.GrowTask) { x.Demands = nil }, api.ErrShape, 0},
		{"9 demands", func(x *api.GrowTask) { x.Demands = make([]api.BandDemand, 9) }, api.ErrLarge, 0},
		demand("no share", api.ErrKind, func(d *api.BandDemand) { d.Share = 3 }),
		demand("an index", api.ErrRange, func(d *api.BandDemand) { d.Index = 4999 }),
		demand("an order", api.ErrOrder, func(d *api.BandDemand) { d.Wave = span(4001, 4000) }),
		demand("bounds", api.ErrBreak, func(d *api.BandDemand) { d.Least, d.Most = 2, 1 }),
	},
		within("On.Index", func(x *api.GrowTask) *int { return &x.On.Index }, beyond(5000, 80000)),
		within("On.Loss", func(x *api.GrowTask) *int { return &x.On.Loss }, beyond(0, 80000)),
	)
}

// asked is a task with most, or reach.
type asked struct {
	api.GrowTask
	number int
}

// P8.4: the errors of tasks, of most and of reach.
func TestDesignDefects(t *testing.T) {
	ofBoxes := slices.Concat(taskDefects(), errorDefects())
	wantDefects(t, "Boxes", rightTask, ofBoxes, errorOf(t, grow.Boxes))
	wantDefects(t, "Released", rightTask, slices.Concat(ofBoxes, demandDefects()), func(x api.GrowTask) (int, api.Errno) {
		answer, point, e := grow.Released(x)
		if e != api.OK && (answer != 0 || point != api.BandPoint{}) {
			t.Errorf("%d, %v beside the error %d", answer, point, e)
		}
		return notTold, e
	})
	part := func(x *asked) *api.GrowTask { return &x.GrowTask }
	number := func(most int) []defect[asked] {
		return within("a number", func(x *asked) *int { return &x.number }, beyond(0, most))
	}
	released := rightTask()
	released.Demands = []api.BandDemand{reflecting(10000)}
	released.Design[1].Loss, released.Grown[1], released.Error = 0, just(5), 0
	right := func() asked {
		x := asked{released, 1}
		x.Design, x.Grown = slices.Clone(x.Design), slices.Clone(x.Grown)
		return x
	}
	wantDefects(t, "Tolerance", right, slices.Concat(within("task", part, taskDefects()), number(50)),
		errorOf(t, func(x asked) (int, api.Errno) { return grow.Tolerance(x.GrowTask, x.number) }))
	wrong := func() asked {
		x := right()
		x.Error = 1
		return x
	}
	all := []defect[asked]{{"all are grown", func(x *asked) { x.Grown = append(x.Grown, just(5)) }, api.ErrMissing, 0}}
	wantDefects(t, "Compensated", wrong, slices.Concat(within("task", part, taskDefects()), all, number(50)),
		errorOf(t, func(x asked) (int, api.Errno) { return grow.Compensated(x.GrowTask, x.number) }))
	wantDefects(t, "Compensated", wrong, slices.Concat(within("error", part, errorDefects()), number(50)),
		errorOf(t, func(x asked) (int, api.Errno) { return grow.Compensated(x.GrowTask, x.number) }))
	for _, x := range []struct{ thick, wrong int }{{500001, 1000}, {999001, 1}, {1000000, 1}, {999999, 1}} {
		got, e := grow.Boxes(api.GrowTask{Design: []api.Layer{film(20000, x.thick)}, Error: x.wrong})
		wantSame(t, "a thickness that may be too great", got, e, nil, api.ErrLarge)
	}
	got, e := grow.Boxes(api.GrowTask{Design: []api.Layer{film(20000, 999000)}, Error: 1})
	wantSame(t, "one that may be the greatest", got, e, []api.LayerBox{box(20000, span(998001, 999999))}, api.OK)
	for _, x := range []api.GrowTask{{}, {Design: []api.Layer{film(20000, 1)}, Grown: []api.Range{just(1)}}} {
		for _, reach := range []int{-1, 0, 51} {
			got, e := grow.Compensated(x, reach)
			wantSame(t, "no layer is left", got, e, 0, api.ErrMissing)
		}
	}
}
