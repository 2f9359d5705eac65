package glass_test

import (
	"math"
	"math/big"
	"math/rand/v2"
	"testing"

	"etalon/api"
	"etalon/glass"
)

const (
	one  = api.One
	most = api.MaxBall
)

// minusZero is -0, which a constant can not be.
var minusZero = math.Copysign(0, -1)

// at returns a ball by the parts of its centre and its radius.
func at(x, y, r int) api.Ball { return api.Ball{Z: complex(float64(x), float64(y)), R: r} }

// span returns a range.
func span(lo, hi int) api.Range { return api.Range{Lo: lo, Hi: hi} }

// mark returns a place in a text.
func mark(line, column int) api.TextMark { return api.TextMark{Line: line, Column: column} }

// table returns a table with rows of a wavelength, an index and a loss.
func table(rows ...[3]int) api.Glass {
	g := api.Glass{Name: "a", Kind: api.GlassTable}
	for _, r := range rows {
		g.Waves = append(g.Waves, r[0])
		g.Index = append(g.Index, float32(r[1]))
		g.Loss = append(g.Loss, float32(r[2]))
	}
	return g
}

// formula returns a formula.
func formula(a, b int) api.Glass {
	return api.Glass{Name: "b", Kind: api.GlassCauchy, Cauchy: [2]int{a, b}}
}

// called returns a material by another name.
func called(name string, g api.Glass) api.Glass {
	g.Name = name
	return g
}

// longTable returns a table with so many rows.
func longTable(rows int) api.Glass {
	var all [][3]int
	for i := range rows {
		all = append(all, [3]int{5000 + i, 15000, i})
	}
	return table(all...)
}

// wrong is what CheckGlass refuses, with the number that it tells and its error.
type wrong struct {
	name  string
	g     api.Glass
	row   int
	errno api.Errno
}

func wrongGlasses() []wrong {
	edit := func(change func(g *api.Glass)) api.Glass {
		g := table([3]int{5000, 15000, 100}, [3]int{6000, 14000, 300}, [3]int{7000, 13000, 0})
		change(&g)
		return g
	}
	index := func(x float64) api.Glass { return edit(func(g *api.Glass) { g.Index[1] = float32(x) }) }
	loss := func(x float64) api.Glass { return edit(func(g *api.Glass) { g.Loss[1] = float32(x) }) }
	wave := func(x int) api.Glass { return edit(func(g *api.Glass) { g.Waves[1] = x }) }
	return []wrong{
		{"nothing", api.Glass{}, 0, api.ErrName},
		{"no name", edit(func(g *api.Glass) { g.Name, g.Kind = "", 0 }), 0, api.ErrName},
		{"a long name", edit(func(g *api.Glass) { g.Name = "abcdefghijklm" }), 0, api.ErrName},
		{"a name of other bytes", edit(func(g *api.Glass) { g.Name = "a b" }), 0, api.ErrName},
		{"no kind", edit(func(g *api.Glass) { g.Kind, g.Cauchy = 0, [2]int{1, 1} }), 0, api.ErrKind},
		{"a kind above", edit(func(g *api.Glass) { g.Kind = 3 }), 0, api.ErrKind},
		{"a kind below", edit(func(g *api.Glass) { g.Kind = -1 }), 0, api.ErrKind},
		{"the greatest kind", edit(func(g *api.Glass) { g.Kind = math.MaxInt }), 0, api.ErrKind},
		{"a table with a first number", api.Glass{Name: "a", Kind: api.GlassTable, Cauchy: [2]int{1, 0}}, 0, api.ErrForm},
		{"a table with a second number", edit(func(g *api.Glass) { g.Cauchy[1] = -1 }), 0, api.ErrForm},
		{"a table without rows", api.Glass{Name: "a", Kind: api.GlassTable}, 0, api.ErrShape},
		{"one wavelength more", edit(func(g *api.Glass) { g.Waves = append(g.Waves, 1) }), 0, api.ErrShape},
		{"one wavelength less", edit(func(g *api.Glass) { g.Waves = g.Waves[:2] }), 0, api.ErrShape},
		{"one index less", edit(func(g *api.Glass) { g.Index = g.Index[:2] }), 0, api.ErrShape},
		{"one loss more", edit(func(g *api.Glass) { g.Loss = append(g.Loss, 0) }), 0, api.ErrShape},
		{"no losses", edit(func(g *api.Glass) { g.Loss = nil }), 0, api.ErrShape},
		{"no waves alone", edit(func(g *api.Glass) { g.Waves = nil }), 0, api.ErrShape},
		{"no whole table ahead of a long one", edit(func(g *api.Glass) { g.Waves = make([]int, 65) }), 0, api.ErrShape},
		{"a long table", longTable(65), 0, api.ErrLarge},
		{"a long table ahead of its rows", table(make([][3]int, 65)...), 0, api.ErrLarge},
		{"a short wave", wave(999), 1, api.ErrRange},
		{"a long wave", wave(200001), 1, api.ErrRange},
		{"a wave below 0", wave(math.MinInt), 1, api.ErrRange},
		{"the greatest wave", wave(math.MaxInt), 1, api.ErrRange},
		{"a wave ahead of an index", edit(func(g *api.Glass) { g.Waves[0], g.Index[0] = 0, 0.5 }), 0, api.ErrRange},
		{"half an index", index(14000.5), 1, api.ErrWhole},
		{"half a loss", loss(0.5), 1, api.ErrWhole},
		{"an index that is none", index(math.NaN()), 1, api.ErrWhole},
		{"a loss that is none", loss(math.NaN()), 1, api.ErrWhole},
		{"an infinite index", index(math.Inf(1)), 1, api.ErrWhole},
		{"an infinite loss", loss(math.Inf(-1)), 1, api.ErrWhole},
		{"the least loss", loss(math.SmallestNonzeroFloat32), 1, api.ErrWhole},
		{"half a loss ahead of an index", edit(func(g *api.Glass) { g.Index[1], g.Loss[1] = 0, 0.5 }), 1, api.ErrWhole},
		{"half an index ahead of the order", edit(func(g *api.Glass) { g.Waves[1], g.Index[1] = 5000, 0.5 }), 1, api.ErrWhole},
		{"a small index", index(4999), 1, api.ErrRange},
		{"a great index", index(80001), 1, api.ErrRange},
		{"the greatest index", index(math.MaxFloat32), 1, api.ErrRange},
		{"a loss below 0", loss(-1), 1, api.ErrRange},
		{"a great loss", loss(80001), 1, api.ErrRange},
		{"a loss ahead of the order", edit(func(g *api.Glass) { g.Waves[1], g.Loss[1] = 5000, -1 }), 1, api.ErrRange},
		{"the same wave", wave(5000), 1, api.ErrOrder},
		{"a wave before", wave(4999), 1, api.ErrOrder},
		{"the last wave", wave(7000), 2, api.ErrOrder},
		{"rows one by one", edit(func(g *api.Glass) { g.Waves[1], g.Index[2] = 4999, 0.5 }), 1, api.ErrOrder},
		{"a formula with waves", called("b", api.Glass{Kind: api.GlassCauchy, Waves: []int{5000}}), 0, api.ErrForm},
		{"a formula with indices", called("b", api.Glass{Kind: api.GlassCauchy, Index: []float32{1}}), 0, api.ErrForm},
		{"a formula with losses", called("b", api.Glass{Kind: api.GlassCauchy, Cauchy: [2]int{15000, 1}, Loss: []float32{0}}), 0, api.ErrForm},
		{"a small formula", formula(4999, 0), 0, api.ErrRange},
		{"a great formula", formula(60001, 0), 0, api.ErrRange},
		{"a formula below", formula(15000, -1), 0, api.ErrRange},
		{"a formula above", formula(15000, 20001), 0, api.ErrRange},
		{"a formula of the greatest numbers", formula(math.MaxInt, math.MinInt), 0, api.ErrRange},
	}
}

// wantSame reports a result or an error that is not the expected one.
func wantSame[T comparable](t *testing.T, name string, got T, e api.Errno, want T, errno api.Errno) {
	t.Helper()
	if got != want || e != errno {
		t.Errorf("%s: %v, %d; want %v, %d", name, got, e, want, errno)
	}
}

// wantBalls reports balls or an error that are not the expected ones, and each -0.
func wantBalls(t *testing.T, name string, got []api.Ball, e api.Errno, want []api.Ball, errno api.Errno) {
	t.Helper()
	if e != errno || len(got) != len(want) {
		t.Errorf("%s: %v, %d; want %v, %d", name, got, e, want, errno)
		return
	}
	for i, b := range got {
		if b != want[i] {
			t.Errorf("%s: number %d: %v; want %v", name, i, b, want[i])
		}
		for _, x := range [2]float64{real(b.Z), imag(b.Z)} {
			if x == 0 && math.Signbit(x) {
				t.Errorf("%s: -0 at %d in %v", name, i, b)
			}
		}
	}
}

// oneGlass is a function of a material; it returns its error, and whether the result beside it is the zero value.
type oneGlass struct {
	name string
	call func(g api.Glass) (api.Errno, bool)
}

func told[T comparable](got T, e api.Errno) (api.Errno, bool) {
	var none T
	return e, got == none
}

func onesOfGlasses(wave int) []oneGlass {
	return []oneGlass{
		{"At", func(g api.Glass) (api.Errno, bool) { return told(glass.At(g, wave)) }},
		{"Between", func(g api.Glass) (api.Errno, bool) { return told(glass.Between(g, span(wave, wave))) }},
		{"Permittivity", func(g api.Glass) (api.Errno, bool) { return told(glass.Permittivity(g, wave)) }},
		{"GroupIndex", func(g api.Glass) (api.Errno, bool) { return told(glass.GroupIndex(g, wave)) }},
	}
}

// draws returns numbers that are the same in every run.
func draws(seed uint64) *rand.Rand { return rand.New(rand.NewPCG(seed, 2)) }

// drawnBetween returns a number from lo to hi.
func drawnBetween(r *rand.Rand, lo, hi int) int { return lo + r.IntN(hi-lo+1) }

// drawnGlass returns a right material of either kind.
func drawnGlass(r *rand.Rand) api.Glass {
	if r.IntN(3) == 0 {
		return formula(drawnBetween(r, 5000, 60000), drawnBetween(r, 0, 20000))
	}
	var rows [][3]int
	wave := drawnBetween(r, 1000, 10000)
	for range drawnBetween(r, 1, 10) {
		rows = append(rows, [3]int{wave, drawnBetween(r, 5000, 80000), drawnBetween(r, 0, 80000)})
		wave += 1 + r.IntN(1<<r.IntN(13))
	}
	return table(rows...)
}

// waveOf returns a wavelength that a material covers.
func waveOf(r *rand.Rand, g api.Glass) int {
	if g.Kind == api.GlassCauchy {
		return drawnBetween(r, 1000, 200000)
	}
	return drawnBetween(r, g.Waves[0], g.Waves[len(g.Waves)-1])
}

// Fractions of any size, with which results are found once more.

func frac(n int) *big.Rat            { return new(big.Rat).SetInt64(int64(n)) }
func sum(a, b *big.Rat) *big.Rat     { return new(big.Rat).Add(a, b) }
func less(a, b *big.Rat) *big.Rat    { return new(big.Rat).Sub(a, b) }
func product(a, b *big.Rat) *big.Rat { return new(big.Rat).Mul(a, b) }
func over(a, b *big.Rat) *big.Rat    { return new(big.Rat).Quo(a, b) }

// floor is exact: the denominator is above 0, so Div rounds down.
func floor(a *big.Rat) int {
	return int(new(big.Int).Div(a.Num(), a.Denom()).Int64())
}

func ceil(a *big.Rat) int    { return -floor(new(big.Rat).Neg(a)) }
func nearest(a *big.Rat) int { return floor(sum(a, big.NewRat(1, 2))) }
