package fit_test

import (
	"slices"
	"testing"

	"etalon/api"
	"etalon/fit"
)

// asked is the arguments of Predicted.
type asked struct {
	q  api.FitSetting
	l  []api.LayerBox
	on api.Substrate
}

func rightAsked() asked { return asked{straight(), slices.Repeat(halfWave(), 2), on(40000)} }

// P7.2: the errors of the arguments, each alone and beside each later one.
func TestErrorsOfPredicted(t *testing.T) {
	defects := slices.Concat(
		within("the setting", func(x *asked) *api.FitSetting { return &x.q }, settingDefects()),
		within("the boxes", func(x *asked) *[]api.LayerBox { return &x.l }, listDefects()),
		within("the substrate", func(x *asked) *api.Substrate { return &x.on }, substrateDefects()),
		[]defect[asked]{{"no light", func(x *asked) { x.l[0].Thick, x.l[1].Thick = just(500), just(0) }, api.ErrZero, 0}},
	)
	wantDefects(t, "Predicted", rightAsked, defects, errorOf(t, func(x asked) ([3]api.Range, api.Errno) {
		return fit.Predicted(x.q, x.l, x.on)
	}))
	// At the ends of the limits nothing is out of range.
	for _, x := range []asked{
		{setting(1000, 5000, 0), boxes(box(just(5000), just(0))), on(80000)},
		{setting(200000, 80000, 9999), boxes(lossy(box(just(80000), just(1000000)), 80000)), api.Substrate{Index: 5000, Loss: 80000}},
		{setting(200000, 5000, 9999), slices.Repeat(boxes(box(just(80000), just(0))), 6), on(5000)},
	} {
		want, errno := bookPredicted(x.q, x.l, x.on)
		got, e := fit.Predicted(x.q, x.l, x.on)
		wantSame(t, "the ends of limits", got, e, want, errno)
		if e == api.ErrRange || e == api.ErrShape {
			t.Errorf("%v: %d", x, e)
		}
	}
}

// P7.2: the chapter's first example, and others.
func TestPredicted(t *testing.T) {
	bare := boxes(box(just(10000), just(0)))
	quarter := boxes(box(just(20000), just(500)))
	for _, x := range []struct {
		name  string
		x     asked
		want  [3]api.Range
		errno api.Errno
	}{
		{"the chapter's example", asked{straight(), halfWave(), on(40000)}, [3]api.Range{span(-6, 6), span(-1048576, -1048562), span(-9, 9)}, api.OK},
		{"a quarter wave that reflects nothing", asked{straight(), quarter, on(40000)}, [3]api.Range{}, api.ErrZero},
		{"a quarter wave that may reflect nothing", asked{straight(), boxes(box(just(20000), span(490, 510))), on(40000)}, [3]api.Range{}, api.ErrZero},
		{"nothing on nothing", asked{straight(), bare, on(10000)}, [3]api.Range{}, api.ErrZero},
		{"light along the substrate", asked{untold(), halfWave(), on(15000)}, [3]api.Range{}, api.ErrZero},
		{"over the edge of total reflection", asked{untold(), boxes(box(span(14000, 16000), just(500))), on(40000)}, [3]api.Range{}, api.ErrClash},
	} {
		got, e := fit.Predicted(x.x.q, x.x.l, x.x.on)
		wantSame(t, x.name, got, e, x.want, x.errno)
		got, e = bookPredicted(x.x.q, x.x.l, x.x.on)
		wantSame(t, x.name+", by the book", got, e, x.want, x.errno)
	}
}

// P7.2: what would be read, and each error, by the book: with boxes so narrow that it is told well, with boxes so wide
// that both ends are cut, and with those that have the errors of the operations.
func TestPredictedByTheBook(t *testing.T) {
	r := draws(20)
	seen := map[api.Errno]int{}
	var cut, negative, positive [3]int
	for range 30000 {
		q, l, on := drawnSetting(r), drawnBoxes(r), drawnSubstrate(r)
		if r.IntN(3) == 0 {
			l = boxesOf(drawnLayers(r, l))
		}
		want, errno := bookPredicted(q, l, on)
		got, e := fit.Predicted(q, l, on)
		wantSame(t, "a prediction", got, e, want, errno)
		seen[errno]++
		for i, x := range got {
			// N is cut at both ends only where nothing may be reflected.
			if x.Lo == -one && (x.Hi == one || i == 0) {
				cut[i]++
			}
			if x.Lo < 0 && x.Hi < 0 {
				negative[i]++
			}
			if x.Lo > 0 {
				positive[i]++
			}
		}
	}
	t.Log(seen, cut, negative, positive)
	for _, e := range []api.Errno{api.OK, api.ErrZero, api.ErrClash, api.ErrLarge} {
		wantSeen(t, "an error", seen[e], 30)
	}
	for i := range 3 {
		wantSeen(t, "cut ranges", cut[i], 30)
		wantSeen(t, "ranges below 0", negative[i], 300)
		wantSeen(t, "ranges above 0", positive[i], 300)
	}
}

// P7.2: the errors of the operations in their order: of the light across the plane of incidence, of that in it, of
// their product, and at last that nothing may be reflected.
func TestErrorsOfOperations(t *testing.T) {
	r := draws(21)
	var across, along, product, zero int
	for range 60000 {
		q, l, on := drawnSetting(r), drawnBoxes(r), drawnSubstrate(r)
		l[0].Index.Hi = min(l[0].Index.Lo+r.IntN(4000), 80000)
		_, e := fit.Predicted(q, l, on)
		_, s := bookAmplitude(q, l, on, api.PolarS)
		_, p := bookAmplitude(q, l, on, api.PolarP)
		switch {
		case s != api.OK:
			wantError(t, "across", e, s)
			if p != api.OK && p != s {
				across++
			}
		case p != api.OK:
			wantError(t, "along", e, p)
			along++
		case e == api.ErrLarge:
			product++
		case e == api.ErrZero:
			zero++
		default:
			wantError(t, "no operation", e, api.OK)
		}
	}
	t.Log(across, along, product, zero)
	wantSeen(t, "two errors of which the first one counts", across, 5)
	wantSeen(t, "errors of the light in the plane", along, 50)
	wantSeen(t, "errors of the product", product, 5)
	wantSeen(t, "boxes that may reflect nothing", zero, 50)
}
