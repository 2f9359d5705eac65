package stack_test

import (
	"math/rand/v2"
	"slices"
	"testing"

	"etalon/api"
	"etalon/ball"
	"etalon/stack"
)

// wantMeeting reports two balls that have no number in common.
func wantMeeting(t *testing.T, name string, about any, a, b api.Ball) {
	t.Helper()
	if meets, e := ball.Meets(a, b); !meets || e != api.OK {
		t.Fatalf("%s of %+v: %v and %v, %d", name, about, a, b, e)
	}
}

// wantCommon reports two ranges that have no number in common.
func wantCommon(t *testing.T, name string, about any, a, b api.Range) {
	t.Helper()
	if a.Lo > b.Hi || b.Lo > a.Hi {
		t.Fatalf("%s of %+v: %v and %v", name, about, a, b)
	}
}

// wantOne reports shares that do not add up to One.
func wantOne(t *testing.T, about any, s api.StackShares) {
	t.Helper()
	lo, hi := 0, 0
	for _, r := range [3]api.Range{s.Reflected, s.Transmitted, s.Absorbed} {
		if r.Lo < 0 || r.Lo > r.Hi || r.Hi > one {
			t.Fatalf("%+v: %v", about, s)
		}
		lo, hi = lo+r.Lo, hi+r.Hi
	}
	if lo > one || hi < one {
		t.Fatalf("%+v: %v is from %d to %d", about, s, lo, hi)
	}
}

// wantSeen reports that too few results were looked at.
func wantSeen(t *testing.T, name string, seen, least int) {
	t.Helper()
	if seen < least {
		t.Errorf("only %d of %s", seen, name)
	}
}

// P3.8: One lies between the sums of the shares' ends; the three ways of finding amplitudes agree.
func TestSharesOfOne(t *testing.T) {
	r := draws(50)
	shares, below, paths := 0, 0, 0
	for range 6000 {
		a := drawnAsk(r)
		s, e := stack.SharesOf(a)
		if e == api.OK {
			shares++
			wantOne(t, a, s)
		}
		reflected, errno := stack.Reflected(a)
		both, e := stack.FromBelow(a)
		if e == api.OK && errno == api.OK {
			below++
			wantMeeting(t, "reflected", a, reflected, both[0])
		}
		if transmitted, errno := stack.Transmitted(a); e == api.OK && errno == api.OK {
			wantMeeting(t, "transmitted", a, transmitted, both[1])
		}
		if all, e := stack.Paths(a, r.IntN(61)); e == api.OK && errno == api.OK {
			paths++
			wantMeeting(t, "paths", a, reflected, all)
		}
	}
	wantSeen(t, "shares", shares, 3000)
	wantSeen(t, "results from below", below, 3000)
	wantSeen(t, "paths", paths, 800)
}

// drawnShares returns the shares of some ask.
func drawnShares(r *rand.Rand) api.StackShares {
	for {
		if s, e := stack.SharesOf(drawnAsk(r)); e == api.OK {
			return s
		}
	}
}

// P3.8: the shares of a slab whose parts add up to One do so, too.
func TestSlabsOfOne(t *testing.T) {
	r, seen := draws(51), 0
	for range 3000 {
		x := api.StackSlab{Front: drawnShares(r), Inside: drawnShares(r), Back: drawnShares(r), Inner: drawnRange(r, 0, one, one)}
		if r.IntN(2) == 0 {
			x.Inner = just(one)
		}
		if s, e := stack.Slab(x); e == api.OK {
			seen++
			wantOne(t, x, s)
		}
	}
	wantSeen(t, "slabs", seen, 2000)
}

// bothSides returns an ask without a loss behind, and that from its other side.
func bothSides(r *rand.Rand) (a, b api.StackAsk) {
	for {
		a = drawnAsk(r)
		a.On.Loss = 0
		switch r.IntN(3) {
		case 0:
			a.Sine = just(0)
		case 1:
			a.On.Index = a.Index
		default:
			// Sines on either side are whole if the indices are 4 and 3 times the same.
			a.Index = 4 * drawnBetween(r, 1700, 6000)
			a.On.Index = a.Index / 4 * 3
			lo := 3 * r.IntN(2400)
			a.Sine = span(lo, lo+3*r.IntN(30))
		}
		var e api.Errno
		if b, e = stack.OtherSide(a); e == api.OK {
			return a, b
		}
	}
}

// P3.9: from the other side as much is transmitted, and without any loss as much is reflected.
func TestBothSides(t *testing.T) {
	r := draws(52)
	seen, without := 0, 0
	for range 4000 {
		a, b := bothSides(r)
		here, e := stack.SharesOf(a)
		there, errno := stack.SharesOf(b)
		if e != api.OK || errno != api.OK {
			continue
		}
		seen++
		wantCommon(t, "transmitted", a, here.Transmitted, there.Transmitted)
		if !slices.ContainsFunc(a.Layers, func(b api.LayerBox) bool { return b.Loss != 0 }) {
			without++
			wantCommon(t, "reflected", a, here.Reflected, there.Reflected)
		}
	}
	wantSeen(t, "both sides", seen, 2000)
	wantSeen(t, "both sides without a loss", without, 1000)
}

// P3.10: the determinant of a layer's matrix meets its double factor.
func TestDeterminants(t *testing.T) {
	r, seen := draws(53), 0
	for range 6000 {
		a := drawnAsk(r)
		for layer := 1; layer <= len(a.Layers); layer++ {
			m, e := stack.MatrixOf(a, layer)
			if e != api.OK {
				continue
			}
			f, e := stack.Factors(a, layer)
			if e != api.OK {
				t.Fatalf("%+v: %d", a, e)
			}
			first, e := ball.Times(m[0], m[3])
			second, errno := ball.Times(m[1], m[2])
			if e != api.OK || errno != api.OK {
				continue
			}
			seen++
			determinant, _ := ball.Minus(first, second)
			wantMeeting(t, "the determinant", a, determinant, f[1])
		}
	}
	wantSeen(t, "determinants", seen, 5000)
}

// P3.10: the product of two stacks one behind the other meets the product of both products.
func TestProductsOfStacks(t *testing.T) {
	r, seen := draws(54), 0
	for range 5000 {
		a := drawnAsk(r)
		cut := r.IntN(len(a.Layers) + 1)
		front, behind := a, a
		front.Layers, behind.Layers = a.Layers[:cut], a.Layers[cut:]
		all, e := stack.Product(a)
		p, errno := stack.Product(front)
		q, last := stack.Product(behind)
		if e != api.OK || errno != api.OK || last != api.OK {
			continue
		}
		both, e := booked(func() [4]api.Ball { return matrixTimes(p, q) })
		if e != api.OK {
			continue
		}
		seen++
		for i := range all {
			wantMeeting(t, "the product", a, all[i], both[i])
		}
	}
	wantSeen(t, "products", seen, 3000)
}

// wantNothing reports a matrix that has not 1, 0, 0, 1 in its balls.
func wantNothing(t *testing.T, a api.StackAsk, layer int) bool {
	t.Helper()
	m, e := stack.MatrixOf(a, layer)
	if e != api.OK {
		return false
	}
	for i, z := range [4]complex128{one, 0, 0, one} {
		if has, e := ball.Contains(m[i], z); !has || e != api.OK {
			t.Fatalf("layer %d of %+v: %v", layer, a, m)
		}
	}
	return true
}

// P3.10: layers that have no thickness, or may have none, and layers of half waves, have the matrix 1, 0, 0, 1.
func TestLayersOfNothing(t *testing.T) {
	r, seen := draws(55), 0
	for range 3000 {
		a := drawnAsk(r)
		for i := range a.Layers {
			a.Layers[i].Thick.Lo = 0
			if r.IntN(2) == 0 {
				a.Layers[i].Thick.Hi = 0
			}
		}
		for i := range a.Layers {
			if wantNothing(t, a, i+1) {
				seen++
			}
		}
	}
	wantSeen(t, "layers of no thickness", seen, 3000)
	for _, index := range []int{10000, 20000, 13333, 80000} {
		for halves := range 5 {
			a := straight(2*index, 15000, box(index, 10000*halves))
			for _, a := range []api.StackAsk{a, inPlane(a)} {
				if !wantNothing(t, a, 1) {
					t.Errorf("%d half waves of the index %d", halves, index)
				}
			}
		}
	}
}

// narrowed returns an ask within an ask.
func narrowed(r *rand.Rand, a api.StackAsk) api.StackAsk {
	narrow := func(s api.Range) api.Range {
		lo := drawnBetween(r, s.Lo, s.Hi)
		return span(lo, drawnBetween(r, lo, s.Hi))
	}
	a.Sine, a.Wave = narrow(a.Sine), narrow(a.Wave)
	a.Layers = slices.Clone(a.Layers)
	for i, b := range a.Layers {
		a.Layers[i].Index, a.Layers[i].Thick = narrow(b.Index), narrow(b.Thick)
	}
	return a
}

// P3.11: the shares of an ask meet those of each ask within it.
func TestWiderAsks(t *testing.T) {
	r, seen := draws(56), 0
	for range 6000 {
		a := drawnAsk(r)
		wide, e := stack.SharesOf(a)
		if e != api.OK {
			continue
		}
		b := narrowed(r, a)
		small, e := stack.SharesOf(b)
		if e != api.OK {
			continue
		}
		seen++
		wantCommon(t, "reflected", a, wide.Reflected, small.Reflected)
		wantCommon(t, "transmitted", a, wide.Transmitted, small.Transmitted)
		wantCommon(t, "absorbed", a, wide.Absorbed, small.Absorbed)
	}
	wantSeen(t, "asks", seen, 3000)
}
