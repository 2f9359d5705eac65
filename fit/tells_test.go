package fit_test

import (
	"slices"
	"testing"

	"etalon/api"
	"etalon/fit"
)

// telling is the arguments of FirstTelling; Tells is asked with the last setting.
type telling struct {
	l    []api.FitSetting
	pair [2][]api.LayerBox
	on   api.Substrate
}

func rightTelling() telling {
	other := boxes(box(just(20000), just(1100)), box(just(20000), just(0)))
	return telling{[]api.FitSetting{straight(), setting(4000, 10000, 8000)}, [2][]api.LayerBox{slices.Repeat(halfWave(), 2), other}, on(40000)}
}

// pairDefects returns the defects of both boxes and of the substrate.
func pairDefects() []defect[telling] {
	return slices.Concat(
		within("the first boxes", func(x *telling) *[]api.LayerBox { return &x.pair[0] }, listDefects()),
		within("the second boxes", func(x *telling) *[]api.LayerBox { return &x.pair[1] }, listDefects()),
		within("the substrate", func(x *telling) *api.Substrate { return &x.on }, substrateDefects()),
	)
}

// P7.6: the errors of Tells, each alone and beside each later one.
func TestErrorsOfTells(t *testing.T) {
	last := within("the setting", func(x *telling) *api.FitSetting { return &x.l[1] }, settingDefects())
	wantDefects(t, "Tells", rightTelling, slices.Concat(last, pairDefects()), errorOf(t, func(x telling) (int, api.Errno) {
		return fit.Tells(x.l[1], x.pair, x.on)
	}))
}

// P7.6: the errors of FirstTelling: all settings are looked at ahead of the boxes.
func TestErrorsOfFirstTelling(t *testing.T) {
	at := func(i int) []defect[telling] {
		return within("a setting", func(x *telling) *api.FitSetting { return &x.l[i] }, settingDefects())
	}
	defects := slices.Concat([]defect[telling]{
		{"21 settings", func(x *telling) { x.l = slices.Repeat(x.l[:1], 21) }, api.ErrLarge, 0},
		{"many wrong settings", func(x *telling) { x.l = make([]api.FitSetting, 5000) }, api.ErrLarge, 0},
	}, at(0), at(1), pairDefects(), []defect[telling]{
		{"nothing tells", func(x *telling) { x.pair[1] = slices.Clone(x.pair[0]) }, api.ErrNone, 0},
	})
	wantDefects(t, "FirstTelling", rightTelling, defects, errorOf(t, func(x telling) (int, api.Errno) {
		return fit.FirstTelling(x.l, x.pair, x.on)
	}))
}

// P7.6: settings that tell two boxes apart, and such that do not, or cannot.
func TestTells(t *testing.T) {
	thick := func(lo, hi int) []api.LayerBox { return boxes(box(just(20000), span(lo, hi))) }
	for _, x := range []struct {
		name   string
		q      api.FitSetting
		pair   [2][]api.LayerBox
		on     api.Substrate
		answer int
	}{
		{"two thicknesses aslant", setting(4000, 10000, 8000), [2][]api.LayerBox{thick(1000, 1000), thick(1100, 1100)}, on(40000), api.AnswerYes},
		{"the other way round", setting(4000, 10000, 8000), [2][]api.LayerBox{thick(1100, 1100), thick(1000, 1000)}, on(40000), api.AnswerYes},
		{"two layers and one", setting(4000, 10000, 8000), [2][]api.LayerBox{thick(1000, 1000), slices.Repeat(thick(550, 550), 2)}, on(40000), api.AnswerYes},
		{"as much in two layers", setting(4000, 10000, 8000), [2][]api.LayerBox{thick(1100, 1100), slices.Repeat(thick(550, 550), 2)}, on(40000), api.AnswerMaybe},
		{"two thicknesses straight on", straight(), [2][]api.LayerBox{thick(1000, 1000), thick(1100, 1100)}, on(40000), api.AnswerMaybe},
		{"the same", setting(4000, 10000, 8000), [2][]api.LayerBox{thick(1000, 1000), thick(1000, 1000)}, on(40000), api.AnswerMaybe},
		{"one in the other one", setting(4000, 10000, 8000), [2][]api.LayerBox{thick(1000, 1000), thick(990, 1010)}, on(40000), api.AnswerMaybe},
		{"the first one cannot be told", straight(), [2][]api.LayerBox{thick(500, 500), thick(1000, 1000)}, on(40000), api.AnswerMaybe},
		{"the second one cannot be told", straight(), [2][]api.LayerBox{thick(1000, 1000), thick(500, 500)}, on(40000), api.AnswerMaybe},
		{"neither one can", untold(), [2][]api.LayerBox{thick(1000, 1000), thick(1100, 1100)}, on(15000), api.AnswerMaybe},
	} {
		got, e := fit.Tells(x.q, x.pair, x.on)
		wantSame(t, x.name, got, e, x.answer, api.OK)
		if book := bookTells(x.q, x.pair, x.on); book != x.answer {
			t.Errorf("%s, by the book: %d", x.name, book)
		}
	}
}

// bookTells returns whether a setting tells two boxes apart.
func bookTells(q api.FitSetting, pair [2][]api.LayerBox, on api.Substrate) int {
	a, e := bookPredicted(q, pair[0], on)
	b, f := bookPredicted(q, pair[1], on)
	if e == api.OK && f == api.OK && (apart(a[0], b[0]) || apart(a[1], b[1]) || apart(a[2], b[2])) {
		return 2
	}
	return 1
}

// P7.6: FirstTelling.
func TestFirstTelling(t *testing.T) {
	pair := [2][]api.LayerBox{halfWave(), boxes(box(just(20000), just(1100)))}
	tells, not := setting(4000, 10000, 8000), straight()
	for _, x := range []struct {
		name  string
		l     []api.FitSetting
		want  int
		errno api.Errno
	}{
		{"the first one", []api.FitSetting{tells, not, tells}, 0, api.OK},
		{"the second one", []api.FitSetting{not, tells, tells}, 1, api.OK},
		{"the last one", append(slices.Repeat([]api.FitSetting{not}, 19), tells), 19, api.OK},
		{"none", []api.FitSetting{not, not}, 0, api.ErrNone},
		{"none of as many as there may be", slices.Repeat([]api.FitSetting{not}, 20), 0, api.ErrNone},
		{"no settings", nil, 0, api.ErrNone},
		{"an empty list", []api.FitSetting{}, 0, api.ErrNone},
		{"a wrong one behind one that tells", []api.FitSetting{tells, {}}, 0, api.ErrRange},
	} {
		got, e := fit.FirstTelling(x.l, pair, on(40000))
		wantSame(t, x.name, got, e, x.want, x.errno)
	}
	_, e := fit.FirstTelling(nil, [2][]api.LayerBox{nil, pair[1]}, on(40000))
	wantError(t, "no settings and no boxes", e, api.ErrShape)
	_, e = fit.FirstTelling(nil, pair, on(0))
	wantError(t, "no settings and no substrate", e, api.ErrRange)
}

// P7.6: both by the book.
func TestTellsByTheBook(t *testing.T) {
	r := draws(60)
	var seen [3]int
	var first [4]int
	for range 3000 {
		var l []api.FitSetting
		pair, on := [2][]api.LayerBox{drawnBoxes(r), drawnBoxes(r)}, drawnSubstrate(r)
		if r.IntN(2) == 0 {
			pair[1] = boxesOf(drawnLayers(r, pair[0]))
		}
		told := -1
		for i := range 3 {
			l = append(l, drawnSetting(r))
			want := bookTells(l[i], pair, on)
			got, e := fit.Tells(l[i], pair, on)
			wantSame(t, "Tells", got, e, want, api.OK)
			seen[want]++
			if want == api.AnswerYes && told < 0 {
				told = i
			}
		}
		first[told+1]++
		got, e := fit.FirstTelling(l, pair, on)
		if told < 0 {
			wantSame(t, "FirstTelling", got, e, 0, api.ErrNone)
		} else {
			wantSame(t, "FirstTelling", got, e, told, api.OK)
		}
	}
	t.Log(seen, first)
	for _, n := range append(first[:], seen[1], seen[2]) {
		wantSeen(t, "an answer", n, 50)
	}
}
