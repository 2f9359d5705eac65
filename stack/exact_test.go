package stack_test

import (
	"math/big"
	"math/rand/v2"
	"testing"

	"etalon/api"
	"etalon/ball"
	"etalon/stack"
)

// These tests follow the chapter's definitions once more, with fractions of any size beside the balls of chapter 1,
// and compare each result and each error.

func num(n int) *big.Rat             { return new(big.Rat).SetInt64(int64(n)) }
func product(a, b *big.Rat) *big.Rat { return new(big.Rat).Mul(a, b) }
func over(a, b *big.Rat) *big.Rat    { return new(big.Rat).Quo(a, b) }

// floor is exact: the denominator is above 0, so Div rounds down.
func floor(a *big.Rat) int { return int(new(big.Int).Div(a.Num(), a.Denom()).Int64()) }
func ceil(a *big.Rat) int  { return -floor(new(big.Rat).Neg(a)) }

// down and up return x y / d, rounded.
func down(x, y, d int) int { return floor(over(product(num(x), num(y)), num(d))) }
func up(x, y, d int) int   { return ceil(over(product(num(x), num(y)), num(d))) }

// must stops a book at an error.
func must[T any](x T, e api.Errno) T {
	if e != api.OK {
		panic(e)
	}
	return x
}

// booked returns what a book finds, or the error at which it stopped.
func booked[T any](find func() T) (got T, e api.Errno) {
	defer func() {
		if x := recover(); x != nil {
			var none T
			got, e = none, x.(api.Errno)
		}
	}()
	return find(), api.OK
}

func add(a, b api.Ball) api.Ball   { return must(ball.Plus(a, b)) }
func take(a, b api.Ball) api.Ball  { return must(ball.Minus(a, b)) }
func times(a, b api.Ball) api.Ball { return must(ball.Times(a, b)) }
func by(a, b api.Ball) api.Ball    { return must(ball.Quotient(a, b)) }

// unit is the exact ball One.
var unit = at(one, 0, 0)

// book finds what belongs to a right ask.
type book struct{ api.StackAsk }

func (k book) box(medium int) api.LayerBox {
	if medium == 0 {
		return box(k.Index, 0)
	}
	if medium <= len(k.Layers) {
		return k.Layers[medium-1]
	}
	return lossy(box(k.On.Index, 0), k.On.Loss)
}

// n is the index ball.
func (k book) n(medium int) api.Ball {
	b := k.box(medium)
	n := must(ball.OfRange(span(down(b.Index.Lo, one, 10000), up(b.Index.Hi, one, 10000))))
	if b.Loss != 0 {
		n = add(n, must(ball.Turned(must(ball.OfFrac(b.Loss, 10000)), 1)))
	}
	return n
}

func (k book) v(medium int) api.Ball {
	n := k.n(medium)
	b := must(ball.OfRange(span(down(k.Index*k.Sine.Lo, one, 100000000), up(k.Index*k.Sine.Hi, one, 100000000))))
	nn := times(n, n)
	return take(nn, times(b, b))
}

func (k book) q(medium int) api.Ball {
	v := k.v(medium)
	if k.box(medium).Loss == 0 {
		return must(ball.RealRoot(must(ball.PartsOf(v))[0]))
	}
	return must(ball.Root(v))
}

// stopped says whether a medium without loss is stopped.
func (k book) stopped(medium int) bool {
	return k.box(medium).Loss == 0 && must(ball.PartsOf(k.v(medium)))[0].Lo < 0
}

func (k book) y(medium int) api.Ball {
	q := k.q(medium)
	if k.Polar == api.PolarS {
		return q
	}
	n := k.n(medium)
	return by(times(n, n), q)
}

func (k book) parts(layer int) [2]api.Range {
	p, b := must(ball.PartsOf(k.q(layer))), k.box(layer)
	for i, x := range p {
		if b.Loss == 0 && k.stopped(layer) == (i == 0) {
			x = api.Range{}
		}
		if x.Lo < 0 {
			x.Lo = 0
		}
		if x.Hi < 0 {
			x.Hi = 0
		}
		p[i] = span(down(4*x.Lo, b.Thick.Lo, k.Wave.Hi), up(4*x.Hi, b.Thick.Hi, k.Wave.Lo))
	}
	return p
}

func factorOf(p [2]api.Range) api.Ball {
	circle := at(0, 0, one)
	if p[0].Hi-p[0].Lo < 1048576 {
		circle = must(ball.Arc(p[0]))
	}
	return times(circle, must(ball.OfRange(must(ball.Fading(p[1])))))
}

func (k book) f(layer int) api.Ball { return factorOf(k.parts(layer)) }

func (k book) g(layer int) api.Ball {
	p := k.parts(layer)
	return factorOf([2]api.Range{span(p[0].Lo+p[0].Lo, p[0].Hi+p[0].Hi), span(p[1].Lo+p[1].Lo, p[1].Hi+p[1].Hi)})
}

func matrixOf(y, g api.Ball) [4]api.Ball {
	h := at(one/2, 0, 0)
	u := times(add(unit, g), h)
	c := times(take(unit, g), h)
	v := by(c, y)
	w := times(c, y)
	return [4]api.Ball{u, v, w, u}
}

func matrixTimes(p, m [4]api.Ball) [4]api.Ball {
	p11 := add(times(p[0], m[0]), times(p[1], m[2]))
	p12 := add(times(p[0], m[1]), times(p[1], m[3]))
	p21 := add(times(p[2], m[0]), times(p[3], m[2]))
	p22 := add(times(p[2], m[1]), times(p[3], m[3]))
	return [4]api.Ball{p11, p12, p21, p22}
}

// passing goes through all layers; F is found on the way if it is wished.
func (k book) passing(wished bool) (p [4]api.Ball, f api.Ball) {
	p, f = [4]api.Ball{unit, {}, {}, unit}, unit
	for j := range k.Layers {
		y := k.y(j + 1)
		g := k.g(j + 1)
		if wished {
			f = times(f, k.f(j+1))
		}
		p = matrixTimes(p, matrixOf(y, g))
	}
	return p, f
}

func (k book) amplitude(transmitted bool) api.Ball {
	y := k.y(0)
	p, f := k.passing(transmitted)
	ys := k.y(len(k.Layers) + 1)
	b := add(p[0], times(p[1], ys))
	c := add(p[2], times(p[3], ys))
	a := times(y, b)
	d := add(a, c)
	if transmitted {
		return by(times(add(y, y), f), d)
	}
	return by(take(a, c), d)
}

// surfaces returns the admittances of all media.
func (k book) surfaces() []api.Ball {
	var y []api.Ball
	for medium := range len(k.Layers) + 2 {
		y = append(y, k.y(medium))
	}
	return y
}

func surface(y []api.Ball, j int) api.Ball {
	difference := take(y[j], y[j+1])
	return by(difference, add(y[j], y[j+1]))
}

func (k book) below() [2]api.Ball {
	y := k.surfaces()
	m := len(k.Layers)
	r := surface(y, m)
	t := add(unit, r)
	for j := m - 1; j >= 0; j-- {
		n := surface(y, j)
		z := times(r, k.g(j+1))
		e := add(unit, times(n, z))
		r = by(add(n, z), e)
		t = by(times(add(unit, n), times(k.f(j+1), t)), e)
	}
	return [2]api.Ball{r, t}
}

func (k book) paths(count int) api.Ball {
	y := k.surfaces()
	n := surface(y, 0)
	z := times(surface(y, 1), k.g(1))
	x := times(n, z)
	s, term := unit, unit
	for range count {
		term = take(api.Ball{}, times(term, x))
		s = add(s, term)
	}
	first := times(take(unit, times(n, n)), z)
	size := must(ball.SizeOf(x)).Hi
	if size >= one {
		panic(api.ErrBreak)
	}
	b := add(n, times(first, s))
	q := one
	for range count + 1 {
		q = up(q, size, one)
	}
	b.R += up(must(ball.SizeOf(first)).Hi, q, one-size)
	if b.R > most {
		panic(api.ErrLarge)
	}
	return b
}

// capped returns a range no end of which is greater than One.
func capped(r api.Range) api.Range {
	if r.Lo > one {
		r.Lo = one
	}
	if r.Hi > one {
		r.Hi = one
	}
	return r
}

// left returns what is left of One beside two ranges.
func left(a, b api.Range) api.Range {
	r := span(one-a.Hi-b.Hi, one-a.Lo-b.Lo)
	if r.Lo < 0 {
		r.Lo = 0
	}
	if r.Hi < 0 {
		r.Hi = 0
	}
	return r
}

func (k book) shares() api.StackShares {
	reflected := must(ball.Energy(k.amplitude(false)))
	e := must(ball.Energy(k.amplitude(true)))
	last := len(k.Layers) + 1
	a, b := must(ball.PartsOf(k.y(last)))[0], must(ball.PartsOf(k.y(0)))[0]
	if b.Lo <= 0 {
		panic(api.ErrZero)
	}
	transmitted := span(down(max(a.Lo, 0), e.Lo, b.Hi), up(max(a.Hi, 0), e.Hi, b.Lo))
	if k.stopped(last) {
		transmitted = api.Range{}
	}
	s := api.StackShares{Reflected: capped(reflected), Transmitted: capped(transmitted)}
	for medium := range last + 1 {
		if k.box(medium).Loss != 0 {
			s.Absorbed = left(s.Reflected, s.Transmitted)
		}
	}
	return s
}

// times2 returns the product of two shares.
func shareTimes(a, b api.Range) api.Range { return span(down(a.Lo, b.Lo, one), up(a.Hi, b.Hi, one)) }

// slabOf finds the shares of a right slab.
func slabOf(x api.StackSlab) (api.StackShares, api.Errno) {
	return booked(func() api.StackShares {
		b := shareTimes(shareTimes(x.Inner, x.Inner), x.Back.Reflected)
		loop := shareTimes(x.Inside.Reflected, b)
		if loop.Hi == one {
			panic(api.ErrBreak)
		}
		round := func(a api.Range) api.Range { return span(down(a.Lo, one, one-loop.Lo), up(a.Hi, one, one-loop.Hi)) }
		r := round(shareTimes(shareTimes(x.Front.Transmitted, b), x.Inside.Transmitted))
		t := round(shareTimes(shareTimes(x.Front.Transmitted, x.Inner), x.Back.Transmitted))
		s := api.StackShares{Reflected: capped(span(x.Front.Reflected.Lo+r.Lo, x.Front.Reflected.Hi+r.Hi)), Transmitted: capped(t)}
		s.Absorbed = left(s.Reflected, s.Transmitted)
		return s
	})
}

// drawnAsk returns a right ask of any kind: with narrow or wide ranges, thin or thick layers, with or without losses.
func drawnAsk(r *rand.Rand) api.StackAsk {
	narrow := r.IntN(3) > 0
	width := func(most int) int {
		if narrow {
			return r.IntN(1 + r.IntN(3)*most/1000)
		}
		return r.IntN(most + 1)
	}
	loss := func() int {
		if r.IntN(3) > 0 {
			return 0
		}
		return r.IntN(1 << r.IntN(17))
	}
	index := func() int {
		if r.IntN(12) == 0 {
			return [3]int{5000, 80000, 10000}[r.IntN(3)]
		}
		return drawnBetween(r, 5000, 30000)
	}
	a := api.StackAsk{Index: index(), Polar: r.IntN(2), Wave: drawnRange(r, 1000, 1000<<r.IntN(8), width(3000))}
	if r.IntN(2) == 0 {
		a.Sine = drawnRange(r, 0, 9999, width(3000))
	}
	layers := r.IntN(4)
	if r.IntN(10) == 0 {
		layers = r.IntN(41)
	}
	for range layers {
		b := api.LayerBox{Index: just(index()), Thick: drawnRange(r, 0, 1<<r.IntN(20), width(1000)), Loss: min(loss(), 80000)}
		b.Index.Hi = min(80000, b.Index.Lo+width(2000))
		a.Layers = append(a.Layers, b)
	}
	a.On = api.Substrate{Index: index(), Loss: min(loss(), 80000)}
	return a
}

// oddAsks are right asks at all kinds of ends.
func oddAsks() []api.StackAsk {
	wide := api.LayerBox{Index: span(5000, 80000), Thick: span(0, 1000000)}
	dense := straight(4000, 15000, box(20000, 500))
	dense.Index = 20000
	dark := straight(5000, 5000, lossy(box(5000, 1000000), 80000))
	dark.On.Loss = 80000
	front := straight(5000, 20000)
	front.Index, front.Sine = 80000, span(0, 9999)
	edge := straight(5000, 10000, box(10000, 300))
	edge.Index, edge.Sine = 20000, span(4999, 5001)
	sharp := aslant(straight(5000, 10000, box(10000, 300)), 5000)
	sharp.Index = 20000
	turned := straight(5000, 15000, box(20000, 700))
	turned.Layers[0].Thick = span(0, 625)
	all := []api.StackAsk{
		quarter(), straight(4000, 40000, box(20000, 1000)), straight(5000, 20000), straight(1000, 80000, box(80000, 1000000)),
		straight(200000, 5000, box(5000, 1)), straight(5000, 80000), straight(5000, 15000, wide), straight(5000, 15000, lossy(wide, 1)),
		dense, aslant(dense, 9999), aslant(dense, 7500), aslant(dense, 8000), dark, front, edge, sharp, turned, widest(), sample(),
		straight(5000, 20000, box(15000, 0), lossy(box(15000, 0), 80000)), straight(5000, 10000, box(10000, 100)),
		straight(5000, 20000, lossy(box(80000, 100), 80000)), straight(5000, 60000, lossy(box(56568, 3), 56569)), straight(5000, 20000, lossy(box(5000, 100), 1)),
		straight(5000, 20000, api.LayerBox{Index: span(79999, 80000), Thick: just(5)}), straight(5000, 20000, lossy(api.LayerBox{Index: span(5000, 20000), Thick: just(5)}, 5000)),
	}
	for _, a := range all {
		all = append(all, inPlane(a))
	}
	return all
}

// tally counts the errors of functions.
type tally map[string]map[api.Errno]int

func (y tally) note(name string, e api.Errno) {
	if y[name] == nil {
		y[name] = map[api.Errno]int{}
	}
	y[name][e]++
}

// compare compares a result with that of the book.
func compare[T comparable](t *testing.T, y tally, name string, a api.StackAsk, got T, e api.Errno, find func() T) {
	t.Helper()
	want, errno := booked(find)
	y.note(name, errno)
	if got != want || e != errno {
		t.Fatalf("%s of %+v: %v, %d; want %v, %d", name, a, got, e, want, errno)
	}
}

// compareAll compares all results of an ask with those of the book.
func compareAll(t *testing.T, y tally, a api.StackAsk, count int) {
	t.Helper()
	k := book{a}
	for medium := range len(a.Layers) + 2 {
		b, e := stack.NormalIndex(a, medium)
		compare(t, y, "NormalIndex", a, b, e, func() api.Ball { return k.q(medium) })
		b, e = stack.Admittance(a, medium)
		compare(t, y, "Admittance", a, b, e, func() api.Ball { return k.y(medium) })
	}
	for i := range a.Layers {
		p, e := stack.PartsOfLayer(a, i+1)
		compare(t, y, "PartsOfLayer", a, p, e, func() [2]api.Range { return k.parts(i + 1) })
		f, e := stack.Factors(a, i+1)
		compare(t, y, "Factors", a, f, e, func() [2]api.Ball { return [2]api.Ball{k.f(i + 1), k.g(i + 1)} })
		m, e := stack.MatrixOf(a, i+1)
		compare(t, y, "MatrixOf", a, m, e, func() [4]api.Ball {
			admittance := k.y(i + 1)
			return matrixOf(admittance, k.g(i+1))
		})
	}
	p, e := stack.Product(a)
	compare(t, y, "Product", a, p, e, func() [4]api.Ball { p, _ := k.passing(false); return p })
	b, e := stack.Reflected(a)
	compare(t, y, "Reflected", a, b, e, func() api.Ball { return k.amplitude(false) })
	b, e = stack.Transmitted(a)
	compare(t, y, "Transmitted", a, b, e, func() api.Ball { return k.amplitude(true) })
	both, e := stack.FromBelow(a)
	compare(t, y, "FromBelow", a, both, e, k.below)
	s, e := stack.SharesOf(a)
	compare(t, y, "SharesOf", a, s, e, k.shares)
	if len(a.Layers) == 1 {
		b, e = stack.Paths(a, count)
		compare(t, y, "Paths", a, b, e, func() api.Ball { return k.paths(count) })
	}
}

// P3.4, P3.5, P3.6: each result is the one that the definitions tell, to the last part, and each error their first one.
func TestExactResults(t *testing.T) {
	r, y := draws(30), tally{}
	for _, a := range oddAsks() {
		for _, count := range []int{0, 1, 7, 60} {
			compareAll(t, y, a, count)
		}
	}
	for range 4000 {
		compareAll(t, y, drawnAsk(r), r.IntN(61))
	}
	for name, errors := range map[string][]api.Errno{
		"NormalIndex":  {api.ErrRange, api.ErrZero, api.ErrLarge, api.ErrClash},
		"Admittance":   {api.ErrRange, api.ErrZero, api.ErrLarge, api.ErrClash},
		"PartsOfLayer": {api.ErrRange, api.ErrZero, api.ErrLarge, api.ErrClash},
		"Factors":      {api.ErrRange, api.ErrZero, api.ErrLarge, api.ErrClash},
		"MatrixOf":     {api.ErrRange, api.ErrZero, api.ErrLarge, api.ErrClash},
		"Product":      {api.ErrRange, api.ErrZero, api.ErrLarge, api.ErrClash},
		"Reflected":    {api.ErrRange, api.ErrZero, api.ErrLarge, api.ErrClash},
		"Transmitted":  {api.ErrRange, api.ErrZero, api.ErrLarge, api.ErrClash},
		"FromBelow":    {api.ErrRange, api.ErrZero, api.ErrLarge, api.ErrClash},
		"Paths":        {api.ErrRange, api.ErrZero, api.ErrLarge, api.ErrClash, api.ErrBreak},
		"SharesOf":     {api.ErrRange, api.ErrZero, api.ErrLarge, api.ErrClash},
	} {
		t.Logf("%s: %v", name, y[name])
		for _, e := range append(errors, api.OK) {
			if y[name][e] == 0 {
				t.Errorf("%s never returned %d", name, e)
			}
		}
	}
}
