package stack_test

import (
	"math"
	"testing"

	"etalon/api"
	"etalon/stack"
)

// shares returns shares by their ranges.
func shares(reflected, transmitted, absorbed api.Range) api.StackShares {
	return api.StackShares{Reflected: reflected, Transmitted: transmitted, Absorbed: absorbed}
}

// P3.6: SharesOf.
func TestSharesOf(t *testing.T) {
	none, all := just(0), just(one)
	mirror := aslant(straight(5000, 10000), 6250)
	mirror.Index = 20000
	lossyMirror := mirror
	lossyMirror.Layers = []api.LayerBox{lossy(box(20000, 0), 1)}
	wave := straight(5000, 20000, api.LayerBox{Index: span(10000, 30000), Thick: span(0, 5000)})
	dark := straight(5000, 15000)
	dark.On.Loss = 80000
	for _, x := range []struct {
		name  string
		a     api.StackAsk
		want  api.StackShares
		errno api.Errno
	}{
		{"a surface", straight(5000, 20000), shares(span(116507, 116509), span(932064, 932072), none), api.OK},
		{"a quarter wave", quarter(), shares(none, all, none), api.OK},
		{"half a wave", straight(4000, 40000, box(20000, 1000)), shares(span(377486, 377490), span(671084, 671092), none), api.OK},
		{"nothing at all", straight(5000, 10000), shares(none, all, none), api.OK},
		{"nothing absorbed by no thickness", straight(5000, 10000, lossy(box(10000, 0), 0)), shares(none, all, none), api.OK},
		{"nothing absorbed, but a loss", straight(5000, 10000, lossy(box(10000, 0), 1)), shares(none, all, none), api.OK},
		{"total reflection", mirror, shares(span(one-6, one), none, none), api.OK},
		{"total reflection behind a loss", lossyMirror, shares(span(one-6, one), none, span(0, 6)), api.OK},
		{"all layers", wave, api.StackShares{}, api.ErrClash},
		{"on a metal", dark, shares(span(959012, 959023), span(89555, 89561), span(0, 9)), api.OK},
		{"at the edge, behind", grazed(5000, 5000), api.StackShares{}, api.ErrZero},
		{"over the edge", grazed(4999, 5001), api.StackShares{}, api.ErrClash},
	} {
		got, e := stack.SharesOf(x.a)
		wantSame(t, x.name, got, e, x.want, x.errno)
		want, errno := booked(book{x.a}.shares)
		wantSame(t, x.name+", by the book", got, e, want, errno)
	}
}

// shining is an ask with the field in the plane, from sines so wide that the admittance in front may be 0.
func shining(sine int) api.StackAsk {
	a := inPlane(straight(5000, 60000))
	a.Sine = span(0, sine)
	return a
}

// P3.6: SharesOf of light whose admittance in front may be 0.
func TestSharesOfNoLight(t *testing.T) {
	a := shining(9500)
	y, e := stack.Admittance(a, 0)
	if e != api.OK || real(y.Z) > float64(y.R) {
		t.Fatalf("the admittance in front: %v, %d", y, e)
	}
	for _, f := range []func(a api.StackAsk) (api.Ball, api.Errno){stack.Reflected, stack.Transmitted} {
		if b, e := f(a); e != api.OK {
			t.Errorf("amplitude: %v, %d", b, e)
		}
	}
	got, e := stack.SharesOf(a)
	wantSame(t, "shares", got, e, api.StackShares{}, api.ErrZero)
	if got, e := stack.SharesOf(shining(7000)); e != api.OK {
		t.Errorf("less wide sines: %v, %d", got, e)
	}
	// The least real part in front is 0, then 1.
	for index, want := range map[int]api.Errno{5003: api.ErrZero, 5014: api.OK} {
		b := shining(9250)
		b.Index, b.Sine.Lo = index, 1300
		got, e := stack.SharesOf(b)
		if y, _ := stack.Admittance(b, 0); e != want || real(y.Z)-float64(y.R) > 1 {
			t.Errorf("the index %d: %v, %v, %d; want %d", index, y, got, e, want)
		}
	}
	// An amplitude stands ahead of it.
	a.On = api.Substrate{Index: 80000, Loss: 80000}
	got, e = stack.SharesOf(a)
	wantSame(t, "behind", got, e, api.StackShares{}, api.ErrLarge)
}

// surfaceOf is shares that reflect and transmit single parts.
func surfaceOf(reflected, transmitted int) api.StackShares {
	return shares(just(reflected), just(transmitted), just(one-reflected-transmitted))
}

// glassPlate is the slab of the chapter's example.
func glassPlate() api.StackSlab {
	s := surfaceOf(one/4, one/4*3)
	return api.StackSlab{Front: s, Inside: s, Back: s, Inner: just(one)}
}

// P3.6: Slab.
func TestSlab(t *testing.T) {
	edit := func(change func(x *api.StackSlab)) api.StackSlab {
		x := glassPlate()
		change(&x)
		return x
	}
	mirror := surfaceOf(one, 0)
	wide := shares(span(0, one-1), span(0, one), span(0, one))
	for _, x := range []struct {
		name  string
		x     api.StackSlab
		want  api.StackShares
		errno api.Errno
	}{
		{"the example", glassPlate(), shares(span(419430, 419431), span(629145, 629146), span(0, 1)), api.OK},
		{"nothing", api.StackSlab{}, shares(just(0), just(0), just(one)), api.OK},
		{"nothing passes", edit(func(x *api.StackSlab) { x.Inner = just(0) }), shares(just(one/4), just(0), just(one/4*3)), api.OK},
		{"half passes", edit(func(x *api.StackSlab) { x.Inner = just(one / 2) }), shares(span(299593, 299594), span(299593, 299594), span(449388, 449390)), api.OK},
		{"nothing behind", edit(func(x *api.StackSlab) { x.Back = surfaceOf(0, one) }), shares(just(one/4), just(one/4*3), just(0)), api.OK},
		{"a mirror behind", edit(func(x *api.StackSlab) { x.Back = mirror }), shares(just(one), just(0), just(0)), api.OK},
		{"a mirror behind a wall", edit(func(x *api.StackSlab) { x.Front, x.Back = mirror, mirror }), shares(just(one), just(0), just(0)), api.OK},
		{"between mirrors", edit(func(x *api.StackSlab) { x.Inside, x.Back = mirror, mirror }), api.StackShares{}, api.ErrBreak},
		{"between mirrors that are less", edit(func(x *api.StackSlab) { x.Inside, x.Back = mirror, surfaceOf(one-1, 1) }), shares(just(one/4), span(0, one), span(0, one/4*3)), api.OK},
		{"perhaps between mirrors", edit(func(x *api.StackSlab) { x.Inside.Reflected, x.Back.Reflected = span(0, one), span(one, one) }), api.StackShares{}, api.ErrBreak},
		{"a wall between mirrors", edit(func(x *api.StackSlab) { x.Inside, x.Back, x.Inner = mirror, mirror, span(0, one-1) }), shares(just(one/4), just(0), just(one/4*3)), api.OK},
		{"all", api.StackSlab{Front: wide, Inside: wide, Back: wide, Inner: span(0, one)}, shares(span(0, one), span(0, one), span(0, one)), api.OK},
		{"what is absorbed is not asked", edit(func(x *api.StackSlab) { x.Front.Absorbed, x.Back.Absorbed = just(one), span(0, one) }), shares(span(419430, 419431), span(629145, 629146), span(0, 1)), api.OK},
		{"rounded", edit(func(x *api.StackSlab) { x.Inner = span(3, 5) }), shares(span(262144, 262146), span(1, 4), span(786426, 786431)), api.OK},
	} {
		got, e := stack.Slab(x.x)
		wantSame(t, x.name, got, e, x.want, x.errno)
		want, errno := slabOf(x.x)
		wantSame(t, x.name+", by the book", got, e, want, errno)
		if e := stack.CheckSlab(x.x); e != api.OK {
			t.Errorf("%s: %d", x.name, e)
		}
	}
}

// P3.6: slabs of any shares, to the last part.
func TestSlabsByTheBook(t *testing.T) {
	r, y := draws(60), tally{}
	ends := func() api.Range {
		if r.IntN(6) == 0 {
			return [4]api.Range{just(0), just(one), span(0, one), just(one - 1)}[r.IntN(4)]
		}
		return drawnRange(r, 0, one, 1+r.IntN(one))
	}
	for range 10000 {
		x := api.StackSlab{
			Front: shares(ends(), ends(), ends()), Inside: shares(ends(), ends(), ends()), Back: shares(ends(), ends(), ends()),
			Inner: ends(),
		}
		want, errno := slabOf(x)
		got, e := stack.Slab(x)
		wantSame(t, "a slab", got, e, want, errno)
		y.note("slab", e)
	}
	if y["slab"][api.ErrBreak] < 10 || y["slab"][api.OK] < 5000 {
		t.Errorf("%v", y)
	}
}

// P3.6: CheckSlab, and Slab, of what is none.
func TestCheckSlab(t *testing.T) {
	ranges := func(x *api.StackSlab) []*api.Range {
		var l []*api.Range
		for _, s := range []*api.StackShares{&x.Front, &x.Inside, &x.Back} {
			l = append(l, &s.Reflected, &s.Transmitted, &s.Absorbed)
		}
		return append(l, &x.Inner)
	}
	wrong := map[api.Range]api.Errno{
		span(-1, 0): api.ErrRange, span(0, one+1): api.ErrRange, span(math.MinInt, 0): api.ErrRange, span(0, math.MaxInt): api.ErrRange,
		span(one+1, 0): api.ErrRange, span(0, -1): api.ErrRange, span(math.MaxInt, math.MinInt): api.ErrRange,
		span(1, 0): api.ErrOrder, span(one, one-1): api.ErrOrder, span(one, 0): api.ErrOrder,
	}
	for r, errno := range wrong {
		for i := range 10 {
			x := glassPlate()
			*ranges(&x)[i] = r
			// One behind has another error, which is not told.
			if i < 9 {
				*ranges(&x)[i+1] = span(-1, 2)
				if errno == api.ErrRange {
					*ranges(&x)[i+1] = span(2, 1)
				}
			}
			if e := stack.CheckSlab(x); e != errno {
				t.Errorf("%v at %d: %d; want %d", r, i, e, errno)
			}
			s, e := stack.Slab(x)
			wantSame(t, "a wrong slab", s, e, api.StackShares{}, errno)
		}
	}
	mirror := surfaceOf(one, 0)
	x := api.StackSlab{Front: mirror, Inside: mirror, Back: mirror, Inner: span(one, one-1)}
	s, e := stack.Slab(x)
	wantSame(t, "wrong ahead of the loop", s, e, api.StackShares{}, api.ErrOrder)
}
