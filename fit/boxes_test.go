package fit_test

import (
	"math"
	"slices"
	"testing"

	"etalon/api"
	"etalon/fit"
)

// rightBoxes returns two boxes.
func rightBoxes() []api.LayerBox {
	return boxes(box(span(20000, 20010), span(0, 9)), lossy(box(just(14600), span(990, 1010)), 3))
}

// P7.4: the errors of boxes are the first ones of CutOf, Widest and Has.
func TestErrorsOfBoxes(t *testing.T) {
	for name, x := range map[string]struct {
		own  api.Errno
		call func(l []api.LayerBox) (int, api.Errno)
	}{
		"CutOf":  {api.ErrMissing, errorOf(t, func(l []api.LayerBox) ([2][]api.LayerBox, api.Errno) { return fit.CutOf(l, 4) })},
		"Widest": {api.OK, errorOf(t, fit.Widest)},
		"Has":    {api.OK, errorOf(t, func(l []api.LayerBox) (bool, api.Errno) { return fit.Has(l, make([]api.Layer, 2)) })},
		"HullOf": {api.OK, errorOf(t, func(l []api.LayerBox) ([]api.LayerBox, api.Errno) { return fit.HullOf([][]api.LayerBox{l}) })},
	} {
		for _, d := range listDefects() {
			l := rightBoxes()
			d.do(&l)
			_, e := x.call(l)
			wantError(t, name+", "+d.name, e, d.errno)
		}
		_, e := x.call(rightBoxes())
		wantError(t, name, e, x.own)
	}
	wantDefects(t, "Widest", rightBoxes, listDefects(), errorOf(t, fit.Widest))
}

// P7.4: CutOf, the chapter's fourth example and others.
func TestCutOf(t *testing.T) {
	l := rightBoxes()
	for _, x := range []struct {
		name      string
		l         []api.LayerBox
		dimension int
		want      [2][]api.LayerBox
		errno     api.Errno
	}{
		{"the chapter's example", boxes(box(just(20000), span(0, 9))), 1, [2][]api.LayerBox{boxes(box(just(20000), span(0, 4))), boxes(box(just(20000), span(5, 9)))}, api.OK},
		{"two numbers", boxes(box(just(20000), span(7, 8))), 1, [2][]api.LayerBox{boxes(box(just(20000), just(7))), boxes(box(just(20000), just(8)))}, api.OK},
		{"three numbers", boxes(box(just(20000), span(7, 9))), 1, [2][]api.LayerBox{boxes(box(just(20000), span(7, 8))), boxes(box(just(20000), just(9)))}, api.OK},
		{"an index", l, 0, [2][]api.LayerBox{boxes(box(span(20000, 20005), span(0, 9)), l[1]), boxes(box(span(20006, 20010), span(0, 9)), l[1])}, api.OK},
		{"a thickness", l, 1, [2][]api.LayerBox{boxes(box(span(20000, 20010), span(0, 4)), l[1]), boxes(box(span(20000, 20010), span(5, 9)), l[1])}, api.OK},
		{"the index of the second layer", l, 2, [2][]api.LayerBox{}, api.ErrBreak},
		{"its thickness", l, 3, [2][]api.LayerBox{boxes(l[0], lossy(box(just(14600), span(990, 1000)), 3)), boxes(l[0], lossy(box(just(14600), span(1001, 1010)), 3))}, api.OK},
		{"an index of the greatest width", boxes(box(span(5000, 80000), just(0))), 0, [2][]api.LayerBox{boxes(box(span(5000, 42500), just(0))), boxes(box(span(42501, 80000), just(0)))}, api.OK},
		{"a thickness of the greatest width", boxes(box(just(5000), span(0, 1000000))), 1, [2][]api.LayerBox{boxes(box(just(5000), span(0, 500000))), boxes(box(just(5000), span(500001, 1000000)))}, api.OK},
		{"a single number", halfWave(), 0, [2][]api.LayerBox{}, api.ErrBreak},
		{"a dimension more", halfWave(), 2, [2][]api.LayerBox{}, api.ErrMissing},
		{"4 dimensions", l, 4, [2][]api.LayerBox{}, api.ErrMissing},
		{"a dimension below 0", l, -1, [2][]api.LayerBox{}, api.ErrMissing},
		{"the least dimension", l, math.MinInt, [2][]api.LayerBox{}, api.ErrMissing},
		{"the greatest dimension", l, math.MaxInt, [2][]api.LayerBox{}, api.ErrMissing},
	} {
		got, e := fit.CutOf(x.l, x.dimension)
		wantSame(t, x.name, got, e, x.want, x.errno)
	}
}

// P7.4: Widest, also where several are as wide.
func TestWidest(t *testing.T) {
	for _, x := range []struct {
		name  string
		l     []api.LayerBox
		want  int
		errno api.Errno
	}{
		{"single numbers", halfWave(), 0, api.ErrNone},
		{"six layers of single numbers", slices.Repeat(halfWave(), 6), 0, api.ErrNone},
		{"an index", boxes(box(span(5000, 5002), span(3, 4))), 0, api.OK},
		{"a thickness", boxes(box(span(5000, 5002), span(3, 6))), 1, api.OK},
		{"both", boxes(box(span(5000, 5002), span(3, 5))), 0, api.OK},
		{"a thickness alone", boxes(box(just(5000), span(3, 4))), 1, api.OK},
		{"the second layer", rightBoxes(), 3, api.OK},
		{"the last of six", append(slices.Repeat(halfWave(), 5), box(just(5000), span(0, 1))), 11, api.OK},
		{"the first of several", slices.Repeat(boxes(halfWave()[0], box(just(5000), span(0, 9)), box(span(5000, 5009), just(0))), 2), 3, api.OK},
	} {
		got, e := fit.Widest(x.l)
		wantSame(t, x.name, got, e, x.want, x.errno)
	}
	r := draws(40)
	for range 5000 {
		l := drawnBoxes(r)
		want, width := bookWidest(l)
		errno := api.OK
		if width == 0 {
			want, errno = 0, api.ErrNone
		}
		got, e := fit.Widest(l)
		wantSame(t, "widest", got, e, want, errno)
	}
}

// P7.4: halves by the book; they have all layers of the boxes, each one once.
func TestCutsByTheBook(t *testing.T) {
	r := draws(41)
	for range 5000 {
		l := drawnBoxes(r)
		for d, width := range bookRanges(l) {
			halves, e := fit.CutOf(l, d)
			if width.Lo == width.Hi {
				wantSame(t, "a single number", halves, e, [2][]api.LayerBox{}, api.ErrBreak)
				continue
			}
			first, second := bookHalves(l, d)
			wantSame(t, "halves", halves, e, [2][]api.LayerBox{first, second}, api.OK)
			layers := drawnLayers(r, l)
			if a, b := bookHas(halves[0], layers), bookHas(halves[1], layers); a == b {
				t.Fatalf("%v in %v: %v, %v", layers, halves, a, b)
			}
		}
	}
}

// P7.4: Has.
func TestHas(t *testing.T) {
	l := rightBoxes()
	in := []api.Layer{film(20005, 5), {Index: 14600, Loss: 3, Thick: 1000}}
	with := func(do func(l []api.Layer)) []api.Layer {
		l := slices.Clone(in)
		do(l)
		return l
	}
	for _, x := range []struct {
		name   string
		layers []api.Layer
		want   bool
	}{
		{"within", in, true},
		{"at the beginnings", []api.Layer{film(20000, 0), {Index: 14600, Loss: 3, Thick: 990}}, true},
		{"at the ends", []api.Layer{film(20010, 9), {Index: 14600, Loss: 3, Thick: 1010}}, true},
		{"no layers", nil, false},
		{"a layer less", in[:1], false},
		{"a layer more", append(slices.Clone(in), in[1]), false},
		{"the other way round", []api.Layer{in[1], in[0]}, false},
		{"a low index", with(func(l []api.Layer) { l[0].Index = 19999 }), false},
		{"a high index", with(func(l []api.Layer) { l[0].Index = 20011 }), false},
		{"a low thickness", with(func(l []api.Layer) { l[1].Thick = 989 }), false},
		{"a high thickness", with(func(l []api.Layer) { l[1].Thick = 1011 }), false},
		{"a thickness below 0", with(func(l []api.Layer) { l[0].Thick = -1 }), false},
		{"a lower loss", with(func(l []api.Layer) { l[1].Loss = 2 }), false},
		{"a higher loss", with(func(l []api.Layer) { l[0].Loss = 1 }), false},
		{"the least number", with(func(l []api.Layer) { l[0].Index = math.MinInt }), false},
		{"the greatest number", with(func(l []api.Layer) { l[1].Loss = math.MaxInt }), false},
	} {
		got, e := fit.Has(l, x.layers)
		wantSame(t, x.name, got, e, x.want, api.OK)
	}
}

// P7.4: HullOf, the chapter's sixth example and others.
func TestHullOf(t *testing.T) {
	thick := func(lo, hi int) []api.LayerBox { return boxes(box(just(20000), span(lo, hi))) }
	two := rightBoxes()
	lossless := rightBoxes()
	lossless[1].Loss = 0
	wrong := rightBoxes()
	wrong[1].Thick = span(1, 0)
	for _, x := range []struct {
		name  string
		l     [][]api.LayerBox
		want  []api.LayerBox
		errno api.Errno
	}{
		{"the chapter's example", [][]api.LayerBox{thick(0, 4), thick(8, 9)}, thick(0, 9), api.OK},
		{"the other way round", [][]api.LayerBox{thick(8, 9), thick(0, 4)}, thick(0, 9), api.OK},
		{"one alone", [][]api.LayerBox{two}, two, api.OK},
		{"one in another one", [][]api.LayerBox{thick(0, 9), thick(3, 4)}, thick(0, 9), api.OK},
		{"all dimensions", [][]api.LayerBox{two, boxes(box(span(19990, 20020), just(12)), lossy(box(span(14500, 14550), span(1000, 2000)), 3))},
			boxes(box(span(19990, 20020), span(0, 12)), lossy(box(span(14500, 14600), span(990, 2000)), 3)), api.OK},
		{"as many as there may be", slices.Repeat([][]api.LayerBox{thick(5, 6)}, 2000), thick(5, 6), api.OK},
		{"the last of them", append(slices.Repeat([][]api.LayerBox{thick(5, 6)}, 1999), thick(0, 0)), thick(0, 6), api.OK},
		{"none", nil, nil, api.ErrShape},
		{"an empty list", [][]api.LayerBox{}, nil, api.ErrShape},
		{"one too many", slices.Repeat([][]api.LayerBox{thick(5, 6)}, 2001), nil, api.ErrLarge},
		{"too many wrong ones", make([][]api.LayerBox, 2001), nil, api.ErrLarge},
		{"no boxes", [][]api.LayerBox{nil}, nil, api.ErrShape},
		{"no boxes behind others", [][]api.LayerBox{two, nil}, nil, api.ErrShape},
		{"too many boxes behind others", [][]api.LayerBox{two, slices.Repeat(two, 4)}, nil, api.ErrLarge},
		{"wrong boxes", [][]api.LayerBox{wrong, two}, nil, api.ErrOrder},
		{"wrong boxes behind others", [][]api.LayerBox{two, two, wrong}, nil, api.ErrOrder},
		{"a box less", [][]api.LayerBox{two, two[:1]}, nil, api.ErrShape},
		{"a box more", [][]api.LayerBox{two[:1], two}, nil, api.ErrShape},
		{"another loss", [][]api.LayerBox{two, lossless}, nil, api.ErrClash},
		{"a loss that the first ones have not", [][]api.LayerBox{lossless, two}, nil, api.ErrClash},
		{"wrong boxes ahead of their number", [][]api.LayerBox{two[:1], wrong}, nil, api.ErrOrder},
		{"wrong boxes ahead of their loss", [][]api.LayerBox{lossless, wrong}, nil, api.ErrOrder},
		{"their number ahead of their loss", [][]api.LayerBox{lossless, boxes(two[1], two[0], two[0])}, nil, api.ErrShape},
		{"one by one", [][]api.LayerBox{two, lossless, wrong, two[:1]}, nil, api.ErrClash},
		{"one by one, too", [][]api.LayerBox{two, two[:1], wrong, lossless}, nil, api.ErrShape},
	} {
		got, e := fit.HullOf(x.l)
		wantSame(t, x.name, got, e, x.want, x.errno)
	}
}
