package ball

import (
	"math"
	"math/bits"
)

// divided returns x times y, divided by d, rounded down, and what is left.
// y is at least 0 and d above 0. What Quotient multiplies has up to 74 bits, so the product is kept in two words;
// what is divided in this package comes to less than 2^55 in size, so Div64 always has room for it.
func divided(x, y, d int) (quotient, rest int) {
	negative := x < 0
	if negative {
		x = -x
	}
	high, low := bits.Mul64(uint64(x), uint64(y))
	q, r := bits.Div64(high, low, uint64(d))
	quotient, rest = int(q), int(r)
	if !negative {
		return quotient, rest
	}
	if rest == 0 {
		return -quotient, 0
	}
	return -quotient - 1, d - rest
}

// lower returns x times y, divided by d, rounded down.
func lower(x, y, d int) int {
	quotient, _ := divided(x, y, d)
	return quotient
}

// upper returns x times y, divided by d, rounded up.
func upper(x, y, d int) int {
	quotient, rest := divided(x, y, d)
	if rest > 0 {
		quotient++
	}
	return quotient
}

// nearest returns x times y, divided by d, rounded with halves up, and whether it was whole already.
func nearest(x, y, d int) (int, bool) {
	quotient, rest := divided(x, y, d)
	if rest >= d-rest {
		quotient++
	}
	return quotient, rest == 0
}

// rootDown returns the root of n (from 0 to 2^60), rounded down.
func rootDown(n int) int {
	// A float has 53 bits, so n may be rounded up to a square. Rounded down it is no matter: the root
	// halves what n has lost in proportion, so that of a square is still rounded to the right number.
	root := int(math.Sqrt(float64(n)))
	if root*root > n {
		root--
	}
	return root
}

// rootUp returns the root of n (from 0 to 2^60), rounded up.
func rootUp(n int) int {
	root := rootDown(n)
	if root*root < n {
		root++
	}
	return root
}

// sized says whether the size of n is at most most. The size itself is not asked: the least int has none.
func sized(n, most int) bool {
	return -most <= n && n <= most
}
