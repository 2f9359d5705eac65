package stack_test

import (
	"math"
	"slices"
	"testing"

	"etalon/api"
	"etalon/stack"
)

// P3.5: the amplitudes of the chapter's examples, and of others that are exact.
func TestAmplitudes(t *testing.T) {
	bare := straight(5000, 20000)
	half := straight(4000, 40000, box(20000, 1000))
	for _, x := range []struct {
		name                   string
		a                      api.StackAsk
		reflected, transmitted api.Ball
	}{
		{"a surface", bare, at(-349525, 0, 1), at(699051, 0, 1)},
		{"a quarter wave", quarter(), at(0, 0, 0), at(0, one/2, 0)},
		{"half a wave", half, at(-629146, 0, 1), at(-419430, 0, 1)},
		{"no thickness", straight(4000, 40000, box(20000, 0)), at(-629146, 0, 1), at(419430, 0, 1)},
		{"nothing at all", straight(4000, 10000), at(0, 0, 0), at(one, 0, 0)},
		{"the same index", straight(4000, 10000, box(10000, 1000)), at(0, 0, 0), at(0, one, 0)},
		{"three quarter waves", straight(4000, 40000, box(20000, 1500)), at(0, 0, 0), at(0, -one/2, 0)},
	} {
		for _, a := range []api.StackAsk{x.a, inPlane(x.a)} {
			got, e := stack.Reflected(a)
			wantSame(t, x.name, got, e, x.reflected, api.OK)
			got, e = stack.Transmitted(a)
			wantSame(t, x.name, got, e, x.transmitted, api.OK)
		}
	}
	both, e := stack.FromBelow(bare)
	wantSame(t, "a surface", both, e, [2]api.Ball{at(-349525, 0, 1), at(699051, 0, 1)}, api.OK)
	both, e = stack.FromBelow(straight(4000, 10000, box(10000, 1000)))
	wantSame(t, "the same index", both, e, [2]api.Ball{{}, at(0, one, 0)}, api.OK)
	both, e = stack.FromBelow(quarter())
	wantSame(t, "a quarter wave", both, e, [2]api.Ball{at(0, 0, 3), at(0, 524288, 5)}, api.OK)
}

// P3.5: the balls of many thin layers that come to a quarter wave hold what this one does.
func TestManyLayers(t *testing.T) {
	a := straight(4000, 40000, slices.Repeat([]api.LayerBox{box(20000, 25)}, 20)...)
	if s, e := stack.SharesOf(a); e != api.OK || s.Reflected.Lo != 0 || s.Transmitted.Hi != one || s.Transmitted.Lo < one/10*9 {
		t.Errorf("%v, %d", s, e)
	}
}

// P3.5: the errors of Paths, in their order, and the ends of its count.
func TestPaths(t *testing.T) {
	for _, x := range []struct {
		name  string
		a     api.StackAsk
		count int
		want  api.Ball
		errno api.Errno
	}{
		{"no layer", straight(5000, 20000), 0, api.Ball{}, api.ErrShape},
		{"two layers", sample(), 5, api.Ball{}, api.ErrShape},
		{"two layers ahead of the count", sample(), -1, api.Ball{}, api.ErrShape},
		{"the count below 0", quarter(), -1, api.Ball{}, api.ErrRange},
		{"the count above", quarter(), 61, api.Ball{}, api.ErrRange},
		{"the least count", quarter(), math.MinInt, api.Ball{}, api.ErrRange},
		{"the greatest count", quarter(), math.MaxInt, api.Ball{}, api.ErrRange},
		{"the count ahead of an operation", grazed(4000, 6000), 61, api.Ball{}, api.ErrRange},
		{"an operation", grazed(4000, 6000), 60, api.Ball{}, api.ErrClash},
		{"nothing to reflect", straight(4000, 10000, box(10000, 700)), 60, at(0, 0, 0), api.OK},
		{"no second surface", straight(4000, 20000, box(20000, 700)), 60, at(-349525, 0, 1), api.OK},
		{"a quarter wave, one path", quarter(), 0, at(-38836, 0, 38842), api.OK},
		{"a quarter wave, two paths", quarter(), 1, at(-4315, 0, 4322), api.OK},
		{"a quarter wave, all paths", quarter(), 60, at(0, 0, 27), api.OK},
	} {
		got, e := stack.Paths(x.a, x.count)
		wantSame(t, x.name, got, e, x.want, x.errno)
	}
}

// layerOn returns an ask with a layer of wide ranges in which light goes around again and again.
func layerOn(index int, sine, wave, film, thick api.Range, loss, on int) api.StackAsk {
	return api.StackAsk{
		Index: index, Sine: sine, Polar: api.PolarP, Wave: wave,
		Layers: []api.LayerBox{{Index: film, Thick: thick, Loss: loss}}, On: api.Substrate{Index: on},
	}
}

// P3.5: paths that are too great, or do not become less.
func TestGreatPaths(t *testing.T) {
	breaks := layerOn(23871, span(6359, 6768), span(5490, 7236), span(48052, 64734), span(2536, 2629), 0, 18331)
	large := layerOn(12820, just(0), span(3508, 4000), span(63001, 80000), span(1803, 2065), 4047, 26560)
	terms := layerOn(19966, span(3649, 4530), span(3674, 4288), span(62544, 80000), span(665, 842), 0, 21974)
	first := layerOn(8443, just(0), just(1000), span(52945, 77977), span(1920, 2050), 0, 16995)
	exact := aslant(straight(5000, 25000, box(15000, 300)), 6000)
	exact.Index = 25000
	product := layerOn(22736, just(0), just(1235), span(38113, 47330), span(2091, 2221), 0, 10605)
	radius := layerOn(5202, just(0), span(2456, 2851), span(57317, 64448), span(451, 529), 0, 18693)
	for _, x := range []struct {
		name  string
		a     api.StackAsk
		count int
		errno api.Errno
	}{
		{"the greatest path is not less than One", breaks, 0, api.ErrBreak},
		{"the greatest path is One", exact, 0, api.ErrBreak},
		{"the greatest path is One, many paths", exact, 60, api.ErrBreak},
		{"the greatest path is not less than One, a product is too great", large, 1, api.ErrBreak},
		{"a power of it is too great", terms, 40, api.ErrLarge},
		{"a power of it is too great with more paths alone", terms, 0, api.ErrBreak},
		{"what the first path is multiplied by is too great", first, 0, api.ErrLarge},
		{"the sum of the paths is too great", product, 43, api.ErrLarge},
		{"the rest of the paths is too great", radius, 15, api.ErrLarge},
	} {
		got, e := stack.Paths(x.a, x.count)
		wantSame(t, x.name, got, e, api.Ball{}, x.errno)
		if _, errno := booked(func() api.Ball { return book{x.a}.paths(x.count) }); errno != x.errno {
			t.Errorf("%s, by the book: %d", x.name, errno)
		}
	}
	// The radius is just that of the greatest ball.
	last := layerOn(6110, span(0, 206), span(2456, 2851), span(57317, 64682), span(451, 529), 0, 18693)
	got, e := stack.Paths(last, 1)
	wantSame(t, "the greatest radius", got, e, at(-857969, 0, most), api.OK)
}
