// Package frac calculates with fractions in lowest terms, whose denominators are above 0. Several chapters use it.
package frac

import (
	"etalon/api"
	"etalon/whole"
)

// Lowest returns num / den (den other than 0) in lowest terms.
func Lowest(num, den int) api.Frac {
	d := whole.Divisor(num, den)
	if den < 0 {
		d = -d
	}
	return api.Frac{Num: num / d, Den: den / d}
}

// IsLowest says whether a fraction, of any numbers, is in lowest terms with a denominator above 0.
func IsLowest(f api.Frac) bool {
	return f.Den > 0 && whole.Divisor(f.Num, f.Den) == 1
}

// Sized says whether both numbers of a fraction are at most most in size.
func Sized(f api.Frac, most int) bool {
	return whole.Sized(f.Num, most) && whole.Sized(f.Den, most)
}

// The operations below are exact while the numbers of both fractions are at most 2^31 - 1 in size.

// Plus returns the sum of two fractions.
func Plus(a, b api.Frac) api.Frac {
	return Lowest(a.Num*b.Den+b.Num*a.Den, a.Den*b.Den)
}

// Minus returns the difference of two fractions.
func Minus(a, b api.Frac) api.Frac {
	return Lowest(a.Num*b.Den-b.Num*a.Den, a.Den*b.Den)
}

// Times returns the product of two fractions.
func Times(a, b api.Frac) api.Frac {
	return Lowest(a.Num*b.Num, a.Den*b.Den)
}

// Over returns the quotient of two fractions, the second one other than 0.
func Over(a, b api.Frac) api.Frac {
	return Lowest(a.Num*b.Den, a.Den*b.Num)
}

// Root returns the root, at least 0, of a fraction that is the square of one, and whether it is.
func Root(f api.Frac) (api.Frac, bool) {
	if f.Num < 0 {
		return api.Frac{}, false
	}
	// In lowest terms just those fractions are squares both of whose numbers are.
	root := api.Frac{Num: whole.RootDown(f.Num), Den: whole.RootDown(f.Den)}
	if root.Num*root.Num != f.Num || root.Den*root.Den != f.Den {
		return api.Frac{}, false
	}
	return root, true
}
