package ball_test

import (
	"math"
	"math/big"
	"math/rand/v2"
	"testing"

	"etalon/api"
	"etalon/ball"
)

// member returns a number of a ball with whole parts: the centre, or one of any direction.
func member(r *rand.Rand, b api.Ball) (x, y int) {
	x, y = int(real(b.Z)), int(imag(b.Z))
	if b.R == 0 || r.IntN(4) == 0 {
		return x, y
	}
	sin, cos := math.Sincos(2 * math.Pi * r.Float64())
	far := float64(b.R)
	if r.IntN(3) == 0 {
		far *= r.Float64()
	}
	return x + int(cos*far), y + int(sin*far) // rounded towards the centre
}

// holds says whether the number x + i y, in parts of One, is in a ball.
func holds(b api.Ball, x, y *big.Rat) bool {
	e := exactOf(b)
	return exact{less(x, e.x), less(y, e.y), nil}.square().Cmp(product(e.r, e.r)) <= 0
}

// P1.8: the sum, the difference, the product and the quotient of numbers of both balls are in the results.
func TestBallsHold(t *testing.T) {
	r := draws(50)
	scale := frac(one)
	for range 20000 {
		a, b := drawnBall(r), drawnBall(r)
		i, j := member(r, a)
		k, l := member(r, b)
		x, y, u, v := frac(i), frac(j), frac(k), frac(l)
		check := func(name string, call func(a, b api.Ball) (api.Ball, api.Errno), p, q *big.Rat) {
			if c, e := call(a, b); e == api.OK && !holds(c, p, q) {
				t.Fatalf("%s of %v and %v: %v has not that of %v, %v and %v, %v", name, a, b, c, x, y, u, v)
			}
		}
		check("sum", ball.Plus, sum(x, u), sum(y, v))
		check("difference", ball.Minus, less(x, u), less(y, v))
		check("product", ball.Times, over(less(product(x, u), product(y, v)), scale), over(sum(product(x, v), product(y, u)), scale))
		if k == 0 && l == 0 {
			continue
		}
		size := over(sum(product(u, u), product(v, v)), scale)
		check("quotient", ball.Quotient, over(sum(product(x, u), product(y, v)), size), over(less(product(y, u), product(x, v)), size))
		hull, e := ball.Hull(a, b)
		if e == api.OK && (!holds(hull, x, y) || !holds(hull, u, v)) {
			t.Fatalf("hull of %v and %v: %v", a, b, hull)
		}
	}
}

// P1.8: the roots of numbers of a ball are in its root.
func TestRootsHold(t *testing.T) {
	r := draws(51)
	for range 20000 {
		b := drawnBall(r)
		root, e := ball.Root(b)
		if e != api.OK {
			continue
		}
		i, j := member(r, b)
		// The stable half of the root first: the floats are right to some 10^-9 parts then.
		x, y := float64(i)*one, float64(j)*one
		wide := math.Sqrt((math.Hypot(x, y) + math.Abs(x)) / 2)
		u, v := wide, y/(2*wide)
		if x < 0 {
			u, v = math.Abs(y)/(2*wide), math.Copysign(wide, y)
		}
		if math.Hypot(u-real(root.Z), v-imag(root.Z)) > float64(root.R)+1e-6 {
			t.Fatalf("root of %v: %v has not that of %d, %d", b, root, i, j)
		}
	}
}

// P1.8: wider balls have wider sums.
func TestWiderSums(t *testing.T) {
	r, seen := draws(52), 0
	for range 20000 {
		wide, b := drawnBall(r), drawnBall(r)
		x, y := member(r, wide)
		a := at(x, y, 0)
		if in, _ := ball.Inside(a, wide); !in {
			continue // rounded out of the ball, or too great
		}
		small, e := ball.Plus(a, b)
		large, errno := ball.Plus(wide, b)
		if e != api.OK || errno != api.OK {
			continue
		}
		seen++
		if in, e := ball.Inside(small, large); !in || e != api.OK {
			t.Fatalf("%v in %v, and %v: %v, %v", a, wide, b, small, large)
		}
	}
	if seen < 5000 {
		t.Errorf("only %d sums", seen)
	}
}

// P1.8: products do not depend on the order; those by One change nothing, exact whole ones are exact.
func TestProductsOfOrder(t *testing.T) {
	r := draws(53)
	for range 20000 {
		a, b := drawnBall(r), drawnBall(r)
		ab, e := ball.Times(a, b)
		ba, errno := ball.Times(b, a)
		wantBall(t, "order", ab, e, ba, errno)
		same, e := ball.Times(a, at(one, 0, 0))
		wantBall(t, "by One", same, e, a, api.OK)
		x, y := drawn(r, 8000), drawn(r, 8000)
		whole, e := ball.Times(at(x<<10, y<<10, 0), at(0, 1<<10, 0))
		wantBall(t, "exact", whole, e, at(-y, x, 0), api.OK)
	}
}

// P1.3, P1.6: what SizeOf, Energy, PartsOf, Contains, Meets and Inside say goes together.
func TestPlacesAgree(t *testing.T) {
	r := draws(54)
	for range 20000 {
		a, b := drawnBall(r), drawnBall(r)
		x, y := member(r, a)
		z := complex(float64(x), float64(y))
		in, e := ball.Contains(a, z)
		if e != api.OK || in != holds(a, frac(x), frac(y)) {
			t.Fatalf("%v contains %v: %v, %d", a, z, in, e)
		}
		if !in {
			continue
		}
		square := x*x + y*y
		if s, _ := ball.SizeOf(a); s.Lo*s.Lo > square || s.Hi*s.Hi < square {
			t.Fatalf("size of %v: %v; %v", a, s, z)
		}
		if n, _ := ball.Energy(a); n.Lo*one > square || n.Hi*one < square {
			t.Fatalf("energy of %v: %v; %v", a, n, z)
		}
		if p, _ := ball.PartsOf(a); p[0].Lo > x || p[0].Hi < x || p[1].Lo > y || p[1].Hi < y {
			t.Fatalf("parts of %v: %v; %v", a, p, z)
		}
		inB, _ := ball.Contains(b, z)
		if meets, _ := ball.Meets(a, b); inB && !meets {
			t.Fatalf("%v and %v have %v", a, b, z)
		}
		if inside, _ := ball.Inside(a, b); inside && !inB {
			t.Fatalf("%v inside %v, but %v is not", a, b, z)
		}
	}
}
