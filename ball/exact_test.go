package ball_test

import (
	"math/big"
	"testing"

	"etalon/api"
	"etalon/ball"
)

// These tests find each result once more, with fractions and roots of any size, and compare.

func num(n int) *big.Int             { return big.NewInt(int64(n)) }
func frac(n int) *big.Rat            { return new(big.Rat).SetInt64(int64(n)) }
func sum(a, b *big.Rat) *big.Rat     { return new(big.Rat).Add(a, b) }
func less(a, b *big.Rat) *big.Rat    { return new(big.Rat).Sub(a, b) }
func product(a, b *big.Rat) *big.Rat { return new(big.Rat).Mul(a, b) }
func over(a, b *big.Rat) *big.Rat    { return new(big.Rat).Quo(a, b) }

// floor is exact: the denominator is above 0, so Div rounds down.
func floor(a *big.Rat) *big.Rat {
	return new(big.Rat).SetInt(new(big.Int).Div(a.Num(), a.Denom()))
}

func ceil(a *big.Rat) *big.Rat {
	return new(big.Rat).Neg(floor(new(big.Rat).Neg(a)))
}

func nearest(a *big.Rat) *big.Rat { return floor(sum(a, big.NewRat(1, 2))) }

// root is the root of a whole number, rounded down.
func root(a *big.Rat) *big.Rat { return new(big.Rat).SetInt(new(big.Int).Sqrt(a.Num())) }

// rootUp is the root of a whole number, rounded up.
func rootUp(a *big.Rat) *big.Rat {
	down := root(a)
	if product(down, down).Cmp(a) == 0 {
		return down
	}
	return sum(down, frac(1))
}

// exact is a ball of fractions.
type exact struct{ x, y, r *big.Rat }

func exactOf(b api.Ball) exact {
	return exact{new(big.Rat).SetFloat64(real(b.Z)), new(big.Rat).SetFloat64(imag(b.Z)), frac(b.R)}
}

func (b exact) square() *big.Rat { return sum(product(b.x, b.x), product(b.y, b.y)) }
func (b exact) down() *big.Rat   { return root(b.square()) }
func (b exact) up() *big.Rat     { return rootUp(b.square()) }

// result rounds the centre, and adds more to the radius if that changes it.
func (b exact) result(more int) (api.Ball, api.Errno) {
	x, y, r := nearest(b.x), nearest(b.y), b.r
	if x.Cmp(b.x) != 0 || y.Cmp(b.y) != 0 {
		r = sum(r, frac(more))
	}
	limit := frac(most)
	for _, n := range []*big.Rat{x, y, r} {
		if new(big.Rat).Abs(n).Cmp(limit) > 0 {
			return api.Ball{}, api.ErrLarge
		}
	}
	real, _ := x.Float64()
	imag, _ := y.Float64()
	return api.Ball{Z: complex(real, imag), R: int(r.Num().Int64())}, api.OK
}

func exactTimes(a, b exact) (api.Ball, api.Errno) {
	scale := frac(one)
	r := sum(sum(product(a.up(), b.r), product(b.up(), a.r)), product(a.r, b.r))
	return exact{
		over(less(product(a.x, b.x), product(a.y, b.y)), scale),
		over(sum(product(a.x, b.y), product(a.y, b.x)), scale),
		ceil(over(r, scale)),
	}.result(1)
}

func exactQuotient(a, b exact) (api.Ball, api.Errno) {
	if b.down().Cmp(b.r) <= 0 {
		return api.Ball{}, api.ErrZero
	}
	scale := frac(one)
	r := product(scale, sum(product(a.r, b.up()), product(a.up(), b.r)))
	return exact{
		over(product(scale, sum(product(a.x, b.x), product(a.y, b.y))), b.square()),
		over(product(scale, less(product(a.y, b.x), product(a.x, b.y))), b.square()),
		ceil(over(r, product(less(b.down(), b.r), b.down()))),
	}.result(1)
}

func exactRoot(b exact) (api.Ball, api.Errno) {
	if b.down().Cmp(b.r) <= 0 {
		return api.Ball{}, api.ErrZero
	}
	size, scale, two := b.down(), frac(one), frac(2)
	tall := new(big.Rat).Abs(b.y)
	if b.x.Sign() < 0 && tall.Cmp(b.r) <= 0 && b.r.Sign() != 0 {
		return api.Ball{}, api.ErrClash
	}
	w := root(over(product(sum(size, new(big.Rat).Abs(b.x)), scale), two))
	r := sum(sum(ceil(over(product(b.r, scale), root(product(size, scale)))), frac(3)), ceil(over(scale, w)))
	if b.x.Sign() >= 0 {
		return exact{w, over(product(b.y, scale), product(two, w)), r}.result(0)
	}
	real := over(product(tall, scale), product(two, w))
	if b.y.Sign() < 0 {
		w = new(big.Rat).Neg(w)
	}
	return exact{real, w, r}.result(0)
}

func exactHull(a, b exact) (api.Ball, api.Errno) {
	half := big.NewRat(1, 2)
	c := exact{nearest(product(half, sum(a.x, b.x))), nearest(product(half, sum(a.y, b.y))), frac(0)}
	for _, d := range []exact{a, b} {
		r := sum(exact{less(d.x, c.x), less(d.y, c.y), nil}.up(), d.r)
		if r.Cmp(c.r) > 0 {
			c.r = r
		}
	}
	return c.result(0)
}

// P1.2, P1.4, P1.6: each result is the one that the definitions tell, to the last part.
func TestExactResults(t *testing.T) {
	r := draws(40)
	seen := map[string]map[api.Errno]int{}
	note := func(name string, e api.Errno) {
		if seen[name] == nil {
			seen[name] = map[api.Errno]int{}
		}
		seen[name][e]++
	}
	for range 20000 {
		a, b := drawnBall(r), drawnBall(r)
		for _, f := range []struct {
			name  string
			call  func(a, b api.Ball) (api.Ball, api.Errno)
			exact func(a, b exact) (api.Ball, api.Errno)
		}{
			{"product", ball.Times, exactTimes},
			{"quotient", ball.Quotient, exactQuotient},
			{"hull", ball.Hull, exactHull},
			{"root", func(a, b api.Ball) (api.Ball, api.Errno) { return ball.Root(a) }, func(a, b exact) (api.Ball, api.Errno) { return exactRoot(a) }},
		} {
			got, e := f.call(a, b)
			want, errno := f.exact(exactOf(a), exactOf(b))
			if got != want || e != errno {
				t.Fatalf("%s of %v and %v: %v, %d; want %v, %d", f.name, a, b, got, e, want, errno)
			}
			note(f.name, e)
		}
	}
	for name, errors := range map[string][]api.Errno{
		"product": {api.OK, api.ErrLarge}, "quotient": {api.OK, api.ErrLarge, api.ErrZero}, "hull": {api.OK, api.ErrLarge}, "root": {api.OK, api.ErrZero, api.ErrClash},
	} {
		for _, e := range errors {
			if seen[name][e] < 20 {
				t.Errorf("%s: %d of the error %d", name, seen[name][e], e)
			}
		}
	}
}

// exactDirection is the direction of m, from the definition.
func exactDirection(m int) (x, y *big.Int) {
	switch m = (m%api.TurnParts + api.TurnParts) % api.TurnParts; {
	case m >= 2097152:
		x, y = exactDirection(m - 2097152)
		return new(big.Int).Neg(x), new(big.Int).Neg(y)
	case m >= 1048576:
		x, y = exactDirection(m - 1048576)
		return new(big.Int).Neg(y), x
	case m > 524288:
		x, y = exactDirection(1048576 - m)
		return y, x
	}
	return exactBetween(m, 0, 524288, num(most), num(0), num(47453132), num(47453132))
}

func exactBetween(m, low, high int, x, y, u, v *big.Int) (*big.Int, *big.Int) {
	if m == low {
		return x, y
	}
	if m == high {
		return u, v
	}
	sumX, sumY := new(big.Int).Add(x, u), new(big.Int).Add(y, v)
	size := new(big.Int).Sqrt(new(big.Int).Add(new(big.Int).Mul(sumX, sumX), new(big.Int).Mul(sumY, sumY)))
	s := new(big.Int).Div(new(big.Int).Mul(sumX, num(most)), size)
	t := new(big.Int).Div(new(big.Int).Mul(sumY, num(most)), size)
	if half := (low + high) / 2; m <= half {
		return exactBetween(m, low, half, x, y, s, t)
	} else {
		return exactBetween(m, half, high, s, t, u, v)
	}
}

// P1.5: arcs are those of the directions, to the last part.
func TestExactArcs(t *testing.T) {
	r := draws(41)
	for range 20000 {
		lo := drawn(r, 1<<r.IntN(40))
		hi := lo + r.IntN(1<<r.IntN(26))
		m := new(big.Int).Div(num(lo+hi), num(2))
		x, y := exactDirection(int(m.Int64()))
		radius := sum(frac(2), ceil(big.NewRat(11*(int64(hi)-m.Int64()), 7)))
		if lo == hi && lo%1048576 == 0 {
			radius = frac(0)
		}
		want, errno := exact{new(big.Rat).SetFrac(x, num(64)), new(big.Rat).SetFrac(y, num(64)), radius}.result(0)
		got, e := ball.Arc(span(lo, hi))
		wantBall(t, "arc", got, e, want, errno)
	}
}

// exactFading is the up and the down fading of p, from the definition.
func exactFading(p int) (up, down *big.Rat) {
	power := func(n int) *big.Rat { return new(big.Rat).SetInt(new(big.Int).Lsh(num(1), uint(n))) }
	exponent := func(twoPi int) *big.Rat { return product(frac(256*p), big.NewRat(int64(twoPi), 10000000)) }
	halves := func(x *big.Rat) int {
		k := 0
		for x.Cmp(power(20+k)) > 0 {
			k++
		}
		return k
	}
	x := floor(exponent(62831853))
	k := halves(x)
	u := floor(over(x, power(k)))
	up = sum(less(power(30), u), ceil(over(product(u, u), power(31))))
	for range k {
		up = ceil(over(product(up, up), power(30)))
	}
	x = ceil(exponent(62831854))
	k = halves(x)
	u = ceil(over(x, power(k)))
	down = less(sum(less(power(30), u), floor(over(product(u, u), power(31)))), ceil(over(product(u, product(u, u)), product(frac(6), power(60)))))
	for range k {
		down = floor(over(product(down, down), power(30)))
	}
	return up, down
}

// P1.5: what fades is between the bounds of the series, to the last part.
func TestExactFading(t *testing.T) {
	r := draws(42)
	for range 5000 {
		hi := r.IntN(1 + 1<<r.IntN(25))
		lo := r.IntN(hi + 1)
		up, _ := exactFading(lo)
		_, down := exactFading(hi)
		want := api.Range{
			Lo: max(int(floor(over(down, frac(1024))).Num().Int64()), 0),
			Hi: min(int(ceil(over(up, frac(1024))).Num().Int64()), one),
		}
		got, e := ball.Fading(span(lo, hi))
		wantSame(t, "fading", got, e, want, api.OK)
	}
}
