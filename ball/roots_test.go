package ball_test

import (
	"math"
	"testing"

	"etalon/api"
	"etalon/ball"
)

// P1.4: Root.
func TestRoot(t *testing.T) {
	for _, x := range []struct {
		name    string
		b, want api.Ball
		errno   api.Errno
	}{
		{"of 1", at(one, 0, 0), at(one, 0, 4), api.OK},
		{"of -1", at(-one, 0, 0), at(0, one, 4), api.OK},
		{"of -1 with -0", api.Ball{Z: complex(-one, minusZero)}, at(0, one, 4), api.OK},
		{"of i", at(0, one, 0), at(741455, 741455, 5), api.OK},
		{"of -i", at(0, -one, 0), at(741455, -741455, 5), api.OK},
		{"of -i with -0", api.Ball{Z: complex(minusZero, -one)}, at(741455, -741455, 5), api.OK},
		{"of 3 + 4 i", at(3*one, 4*one, 0), at(2*one, one, 4), api.OK},
		{"of 3 - 4 i", at(3*one, -4*one, 0), at(2*one, -one, 4), api.OK},
		{"of -3 + 4 i", at(-3*one, 4*one, 0), at(one, 2*one, 4), api.OK},
		{"of -3 - 4 i", at(-3*one, -4*one, 0), at(one, -2*one, 4), api.OK},
		{"of 4 with a radius", at(4*one, 0, 3), at(2*one, 0, 6), api.OK},
		{"of next to 0", at(1, 0, 0), at(1024, 0, 1027), api.OK},
		{"of next to 0 with loss", at(1, 1, 0), at(1024, 512, 1027), api.OK},
		{"of the greatest", at(most, most, most), at(9216430, 3817571, 7053955), api.OK},
		{"beside the cut", at(-one, 1, 0), at(1, one, 4), api.OK},
		{"below the cut", at(-one, -1, 0), at(1, -one, 4), api.OK},
		{"just off the cut", at(-one, -5, 4), at(3, -one, 8), api.OK},
		{"at the cut", at(-one, 1, 1), api.Ball{}, api.ErrClash},
		{"at the cut, below", at(-one, -4, 4), api.Ball{}, api.ErrClash},
		{"on the cut", at(-one, 0, 1), api.Ball{}, api.ErrClash},
		{"of 0", at(0, 0, 0), api.Ball{}, api.ErrZero},
		{"with 0", at(3, 4, 5), api.Ball{}, api.ErrZero},
		{"with a down of its radius", at(1, 1, 1), api.Ball{}, api.ErrZero},
		{"ErrZero ahead of ErrClash", at(-3, 4, 5), api.Ball{}, api.ErrZero},
	} {
		b, e := ball.Root(x.b)
		wantBall(t, x.name, b, e, x.want, x.errno)
	}
}

// P1.4: RealRoot.
func TestRealRoot(t *testing.T) {
	for _, x := range []struct {
		name  string
		r     api.Range
		want  api.Ball
		errno api.Errno
	}{
		{"1 to 4", span(one, 4*one), at(1572864, 0, 524288), api.OK},
		{"-4 to -1", span(-4*one, -one), at(0, 1572864, 524288), api.OK},
		{"-1", span(-one, -one), at(0, one, 0), api.OK},
		{"0", span(0, 0), at(0, 0, 0), api.OK},
		{"0 to 1", span(0, one), at(524288, 0, 524288), api.OK},
		{"-1 to 0", span(-one, 0), at(0, 524288, 524288), api.OK},
		{"rounded down and up", span(2, 2), at(1448, 0, 1), api.OK},
		{"the greatest", span(most, most), at(8*one, 0, 0), api.OK},
		{"the least", span(-most, -most), at(0, 8*one, 0), api.OK},
		{"both signs", span(-1, 1), api.Ball{}, api.ErrClash},
		{"wrong order", span(1, -1), api.Ball{}, api.ErrOrder},
		{"above", span(0, most+1), api.Ball{}, api.ErrRange},
		{"below", span(-most-1, 0), api.Ball{}, api.ErrRange},
		{"both signs and above", span(-1, most+1), api.Ball{}, api.ErrRange},
		{"the greatest ints", span(math.MinInt, math.MaxInt), api.Ball{}, api.ErrRange},
		{"the least int", span(math.MinInt, math.MinInt), api.Ball{}, api.ErrRange},
	} {
		b, e := ball.RealRoot(x.r)
		wantBall(t, x.name, b, e, x.want, x.errno)
	}
}

// P1.10: the product of a root with itself meets its ball.
func TestRootSquared(t *testing.T) {
	r, seen := draws(10), 0
	for range 20000 {
		b := drawnBall(r)
		root, e := ball.Root(b)
		if e != api.OK {
			continue
		}
		square, e := ball.Times(root, root)
		if e != api.OK {
			continue
		}
		seen++
		if meets, e := ball.Meets(square, b); !meets || e != api.OK {
			t.Fatalf("root of %v: %v, squared %v", b, root, square)
		}
		if real(root.Z) < 0 {
			t.Fatalf("root of %v: %v", b, root)
		}
	}
	if seen < 5000 {
		t.Errorf("only %d roots", seen)
	}
}

// P1.10: a real root of a negative range is imaginary, and its square meets the range.
func TestRealRootSquared(t *testing.T) {
	r := draws(11)
	for range 5000 {
		lo := r.IntN(most + 1)
		hi := lo + r.IntN(most+1-lo)
		root, e := ball.RealRoot(span(-hi, -lo))
		if e != api.OK || real(root.Z) != 0 || imag(root.Z) < 0 {
			t.Fatalf("root of %d to %d: %v, %d", -hi, -lo, root, e)
		}
		right, e := ball.RealRoot(span(lo, hi))
		if e != api.OK || imag(right.Z) != 0 || real(right.Z) != imag(root.Z) || right.R != root.R {
			t.Fatalf("root of %d to %d: %v, %d", lo, hi, right, e)
		}
		square, e := ball.Times(root, root)
		if e != api.OK {
			continue
		}
		of, _ := ball.OfRange(span(-hi, -lo))
		if meets, _ := ball.Meets(square, of); !meets {
			t.Fatalf("root of %v: %v, squared %v", of, root, square)
		}
	}
}

// P1.10: the quotient of a product by one of both meets the other one.
func TestQuotientOfProduct(t *testing.T) {
	r, seen := draws(12), 0
	for range 20000 {
		a, b := drawnBall(r), drawnBall(r)
		p, e := ball.Times(a, b)
		if e != api.OK {
			continue
		}
		q, e := ball.Quotient(p, b)
		if e != api.OK {
			continue
		}
		seen++
		if meets, e := ball.Meets(q, a); !meets || e != api.OK {
			t.Fatalf("%v times %v: %v; divided %v", a, b, p, q)
		}
	}
	if seen < 2000 {
		t.Errorf("only %d quotients", seen)
	}
}
