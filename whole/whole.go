// Package whole calculates with whole numbers: quotients and roots that are rounded, divisors, sizes, and floats that
// hold whole numbers. Several chapters use it.
package whole

import (
	"math"
	"math/bits"
)

// divided returns x times y, divided by d, rounded down, and what is left. It is for y at least 0 and d above 0.
// What chapters multiply may have more than 64 bits, so the product is kept in two words; what they divide comes
// to less than 2^62 in size, so Div64 always has room for it.
func divided(x, y, d int) (quotient, rest int) {
	negative := x < 0
	if negative {
		x = -x
	}
	high, low := bits.Mul64(uint64(x), uint64(y))
	q, r := bits.Div64(high, low, uint64(d))
	quotient, rest = int(q), int(r)
	if !negative {
		return quotient, rest
	}
	if rest == 0 {
		return -quotient, 0
	}
	return -quotient - 1, d - rest
}

// Lower returns x times y (at least 0), divided by d (above 0), rounded down.
func Lower(x, y, d int) int {
	quotient, _ := divided(x, y, d)
	return quotient
}

// Upper returns x times y (at least 0), divided by d (above 0), rounded up.
func Upper(x, y, d int) int {
	quotient, rest := divided(x, y, d)
	if rest > 0 {
		quotient++
	}
	return quotient
}

// Nearest returns x times y (at least 0), divided by d (above 0), rounded with halves up, and whether it was whole already.
func Nearest(x, y, d int) (int, bool) {
	quotient, rest := divided(x, y, d)
	if rest >= d-rest {
		quotient++
	}
	return quotient, rest == 0
}

// RootDown returns the root of n (from 0 to 2^60), rounded down.
func RootDown(n int) int {
	// A float has 53 bits, so n may be rounded up to a square. Rounded down it is no matter: the root
	// halves what n has lost in proportion, so that of a square is still rounded to the right number.
	root := int(math.Sqrt(float64(n)))
	if root*root > n {
		root--
	}
	return root
}

// RootUp returns the root of n (from 0 to 2^60), rounded up.
func RootUp(n int) int {
	root := RootDown(n)
	if root*root < n {
		root++
	}
	return root
}

// Divisor returns the greatest common divisor of numbers, 0 if all are 0. It is above 0 otherwise, unless the least int
// is the only one that is not 0.
func Divisor(numbers ...int) int {
	d := 0
	for _, n := range numbers {
		for n != 0 {
			d, n = n, d%n
		}
	}
	return max(d, -d)
}

// Within says whether n is from least to most.
func Within(n, least, most int) bool {
	return least <= n && n <= most
}

// Sized says whether the size of n is at most most. The size itself is not asked: the least int has none.
func Sized(n, most int) bool {
	return -most <= n && n <= most
}
