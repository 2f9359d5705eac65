package whole

import (
	"math"
	"math/big"
	"testing"
)

// Bounds are included; the least int has no size.
func TestBounds(t *testing.T) {
	for n, want := range map[int]bool{math.MinInt: false, -3: false, -2: true, 0: true, 5: true, 6: false, math.MaxInt: false} {
		if Within(n, -2, 5) != want {
			t.Errorf("%d from -2 to 5: %v", n, !want)
		}
	}
	for n, want := range map[int]bool{math.MinInt: false, -3: false, -2: true, 0: true, 2: true, 3: false, math.MaxInt: false} {
		if Sized(n, 2) != want {
			t.Errorf("%d to 2 in size: %v", n, !want)
		}
	}
}

// Roots are those of whole numbers, also where floats have no room for all digits.
func TestRootsOfWholeNumbers(t *testing.T) {
	check := func(n, down, up int) {
		if gotDown, gotUp := RootDown(n), RootUp(n); gotDown != down || gotUp != up {
			t.Errorf("root of %d: %d, %d; want %d, %d", n, gotDown, gotUp, down, up)
		}
	}
	check(0, 0, 0)
	check(1, 1, 1)
	around := func(r int) {
		check(r*r, r, r)
		check(r*r-1, r-1, r)
		check((r-1)*(r-1)+1, r-1, r)
	}
	for bit := 2; bit <= 30; bit++ {
		for r := 1<<bit - 2; r <= 1<<bit; r++ {
			around(r)
		}
	}
	for r := 2; r < 1<<30; r += r/1000 + 1 {
		around(r)
	}
}

// Quotients are rounded down, up, or to the nearest one with halves up, also where the product has more than 64 bits.
func TestQuotientsOfWholeNumbers(t *testing.T) {
	for _, x := range []struct {
		x, y, d              int
		lower, upper, middle int
		whole                bool
	}{
		{0, 5, 3, 0, 0, 0, true},
		{6, 1, 3, 2, 2, 2, true},
		{-6, 1, 3, -2, -2, -2, true},
		{7, 1, 3, 2, 3, 2, false},
		{-7, 1, 3, -3, -2, -2, false},
		{8, 1, 3, 2, 3, 3, false},
		{-8, 1, 3, -3, -2, -3, false},
		{1, 1, 2, 0, 1, 1, false},
		{-1, 1, 2, -1, 0, 0, false},
		{3, 1, 2, 1, 2, 2, false},
		{-3, 1, 2, -2, -1, -1, false},
		{1 << 53, 1 << 20, 1 << 53, 1 << 20, 1 << 20, 1 << 20, true},
		{1<<53 - 1, 1 << 20, 1 << 53, 1<<20 - 1, 1 << 20, 1 << 20, false},
		{1 - 1<<53, 1 << 20, 1 << 53, -1 << 20, 1 - 1<<20, -1 << 20, false},
	} {
		middle, whole := Nearest(x.x, x.y, x.d)
		if Lower(x.x, x.y, x.d) != x.lower || Upper(x.x, x.y, x.d) != x.upper || middle != x.middle || whole != x.whole {
			t.Errorf("%d times %d / %d: %d, %d, %d, %v", x.x, x.y, x.d, Lower(x.x, x.y, x.d), Upper(x.x, x.y, x.d), middle, whole)
		}
		product := new(big.Int).Mul(big.NewInt(int64(x.x)), big.NewInt(int64(x.y)))
		down, rest := new(big.Int).DivMod(product, big.NewInt(int64(x.d)), new(big.Int))
		quotient, left := divided(x.x, x.y, x.d)
		if down.Int64() != int64(quotient) || rest.Int64() != int64(left) {
			t.Errorf("%d times %d / %d: %d and %d left", x.x, x.y, x.d, quotient, left)
		}
	}
}

// Divisors are above 0, of any numbers of either sign.
func TestDivisor(t *testing.T) {
	for _, x := range []struct {
		want    int
		numbers []int
	}{
		{0, nil}, {0, []int{0}}, {0, []int{0, 0}}, {7, []int{7}}, {7, []int{-7}}, {7, []int{0, -7, 0}}, {1, []int{-1, 0}},
		{6, []int{12, 18}}, {6, []int{-12, 18}}, {6, []int{12, -18}}, {6, []int{-18, -12}}, {1, []int{6, 10, 15}}, {2, []int{6, 10, 0, 14}},
		{math.MaxInt, []int{math.MaxInt, math.MaxInt}}, {1, []int{math.MaxInt, math.MinInt}}, {2, []int{math.MinInt, 6}},
		{1 << 62, []int{math.MinInt, 1 << 62}},
	} {
		if got := Divisor(x.numbers...); got != x.want {
			t.Errorf("%v: %d; want %d", x.numbers, got, x.want)
		}
	}
}
