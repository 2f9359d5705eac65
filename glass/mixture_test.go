package glass_test

import (
	"math"
	"math/big"
	"testing"

	"etalon/api"
	"etalon/glass"
)

// P2.3: MixedBetween.
func TestMixedBetween(t *testing.T) {
	for _, x := range []struct {
		name        string
		a, b, share int
		want        api.Range
		errno       api.Errno
	}{
		{"the example", 20000, 10000, 5000, span(12649, 15812), api.OK},
		{"all", 20000, 10000, 10000, span(20000, 20000), api.OK},
		{"nothing", 20000, 10000, 0, span(10000, 10000), api.OK},
		{"next to nothing", 20000, 10000, 1, span(10000, 10002), api.OK},
		{"nearly all", 20000, 10000, 9999, span(19997, 20000), api.OK},
		{"of one", 15000, 15000, 1234, span(15000, 15000), api.OK},
		{"of one that is no square", 15001, 15001, 3333, span(15001, 15001), api.OK},
		{"of the least one", 5000, 5000, 5000, span(5000, 5000), api.OK},
		{"of the greatest one", 80000, 80000, 9999, span(80000, 80000), api.OK},
		{"of the least and the greatest", 5000, 80000, 5000, span(7057, 56679), api.OK},
		{"of the greatest and the least", 80000, 5000, 1, span(5000, 5064), api.OK},
		// In series the square is 26749583.77.., less than that of 5172 by less than 1.
		{"just below a square", 5021, 5281, 4009, span(5171, 5179), api.OK},
		{"a small first one", 4999, 80001, -1, api.Range{}, api.ErrRange},
		{"a great first one", 80001, 10000, 0, api.Range{}, api.ErrRange},
		{"a small second one", 10000, 4999, 0, api.Range{}, api.ErrRange},
		{"a great second one", 10000, 80001, 0, api.Range{}, api.ErrRange},
		{"a share below", 10000, 20000, -1, api.Range{}, api.ErrRange},
		{"a share above", 10000, 20000, 10001, api.Range{}, api.ErrRange},
		{"the greatest share", 10000, 20000, math.MaxInt, api.Range{}, api.ErrRange},
		{"the least share", 10000, 20000, math.MinInt, api.Range{}, api.ErrRange},
		{"the greatest indices", math.MaxInt, math.MinInt, 0, api.Range{}, api.ErrRange},
	} {
		got, e := glass.MixedBetween(x.a, x.b, x.share)
		wantSame(t, x.name, got, e, x.want, x.errno)
	}
}

// P2.3: ShareFor.
func TestShareFor(t *testing.T) {
	for _, x := range []struct {
		name        string
		a, b, index int
		want        api.Range
		errno       api.Errno
	}{
		{"the example", 20000, 10000, 15811, span(4999, 5000), api.OK},
		{"turned", 10000, 20000, 15811, span(5000, 5001), api.OK},
		{"that of the first one", 20000, 10000, 20000, span(10000, 10000), api.OK},
		{"that of the second one", 20000, 10000, 10000, span(0, 0), api.OK},
		{"exact", 50000, 10000, 26000, span(2400, 2400), api.OK},
		{"exact, turned", 10000, 50000, 26000, span(7600, 7600), api.OK},
		{"the least and the greatest", 5000, 80000, 79999, span(0, 1), api.OK},
		{"next to the greatest", 80000, 5000, 79999, span(9999, 10000), api.OK},
		{"neighbours", 15000, 15001, 15000, span(10000, 10000), api.OK},
		{"the same", 15000, 15000, 15000, api.Range{}, api.ErrZero},
		{"the same ahead of outside", 15000, 15000, 20000, api.Range{}, api.ErrZero},
		{"below", 20000, 10000, 9999, api.Range{}, api.ErrBreak},
		{"above", 20000, 10000, 20001, api.Range{}, api.ErrBreak},
		{"below, turned", 10000, 20000, 9999, api.Range{}, api.ErrBreak},
		{"above, turned", 10000, 20000, 20001, api.Range{}, api.ErrBreak},
		{"a small first one", 4999, 10000, 10000, api.Range{}, api.ErrRange},
		{"a great first one", 80001, 10000, 10000, api.Range{}, api.ErrRange},
		{"a small second one", 10000, 4999, 10000, api.Range{}, api.ErrRange},
		{"a great second one", 10000, 80001, 10000, api.Range{}, api.ErrRange},
		{"a small index", 20000, 10000, 4999, api.Range{}, api.ErrRange},
		{"a great index", 20000, 10000, 80001, api.Range{}, api.ErrRange},
		{"a great index of the same", 15000, 15000, 80001, api.Range{}, api.ErrRange},
		{"the greatest ints", math.MaxInt, math.MaxInt, math.MinInt, api.Range{}, api.ErrRange},
	} {
		got, e := glass.ShareFor(x.a, x.b, x.index)
		wantSame(t, x.name, got, e, x.want, x.errno)
	}
}

// rootOf returns the root of a fraction, rounded down, and rounded up.
func rootOf(x *big.Rat) api.Range {
	down := int(new(big.Int).Sqrt(big.NewInt(int64(floor(x)))).Int64())
	if frac(down*down).Cmp(x) == 0 {
		return span(down, down)
	}
	return span(down, down+1)
}

// P2.3, P2.7: each result is the one that the definitions tell; mixtures lie between both indices, and do not depend
// on their order.
func TestExactMixtures(t *testing.T) {
	r := draws(10)
	for range 20000 {
		a, b, s := drawnBetween(r, 5000, 80000), drawnBetween(r, 5000, 80000), drawnBetween(r, 0, 10000)
		if r.IntN(2) == 0 {
			b = min(a+r.IntN(3), 80000)
		}
		all, rest := frac(10000), frac(10000-s)
		series := over(frac(a*a), over(sum(product(frac(s), frac(b*b)), product(rest, frac(a*a))), product(all, frac(b*b))))
		parallel := over(sum(product(frac(s), frac(a*a)), product(rest, frac(b*b))), all)
		got, e := glass.MixedBetween(a, b, s)
		wantSame(t, "MixedBetween", got, e, span(rootOf(series).Lo, rootOf(parallel).Hi), api.OK)
		turned, e := glass.MixedBetween(b, a, 10000-s)
		wantSame(t, "turned", turned, e, got, api.OK)
		if got.Lo < min(a, b) || got.Hi > max(a, b) || got.Lo > got.Hi {
			t.Fatalf("%d of %d and %d: %v", s, a, b, got)
		}
		if a == b {
			continue
		}
		index := drawnBetween(r, min(a, b), max(a, b))
		share := product(all, over(frac(index*index-b*b), frac(a*a-b*b)))
		got, e = glass.ShareFor(a, b, index)
		wantSame(t, "ShareFor", got, e, span(floor(share), ceil(share)), api.OK)
		first, e := glass.ShareFor(a, b, a)
		wantSame(t, "of all", first, e, span(10000, 10000), api.OK)
		second, e := glass.ShareFor(a, b, b)
		wantSame(t, "of nothing", second, e, span(0, 0), api.OK)
		if t.Failed() {
			t.Fatalf("of %d and %d: %d, %d", a, b, s, index)
		}
	}
}

// P2.3: the mixtures in parallel with the shares that are told have the index between them.
func TestSharesMix(t *testing.T) {
	r := draws(11)
	for range 5000 {
		b := drawnBetween(r, 5000, 79999)
		a := drawnBetween(r, b+1, 80000)
		index := drawnBetween(r, b, a)
		share, e := glass.ShareFor(a, b, index)
		low, errno := glass.MixedBetween(a, b, share.Lo)
		if e != api.OK || errno != api.OK || low.Lo > index {
			t.Fatalf("%d of %d and %d: %v, %v", index, a, b, share, low)
		}
		if high, e := glass.MixedBetween(a, b, share.Hi); e != api.OK || high.Hi < index {
			t.Fatalf("%d of %d and %d: %v, %v", index, a, b, share, high)
		}
	}
}
