// Package text reads what texts are made of: names and numbers. Several chapters use it.
package text

import (
	"strconv"
	"strings"

	"etalon/api"
)

// IsName says whether a text is a name.
func IsName(s string) bool {
	if len(s) < 1 || len(s) > api.MaxName || !isLetter(s[0]) {
		return false
	}
	for i := range len(s) {
		if !isLetter(s[i]) && !isDigit(s[i]) && s[i] != '-' {
			return false
		}
	}
	return true
}

func isLetter(c byte) bool { return 'A' <= c && c <= 'Z' || 'a' <= c && c <= 'z' }
func isDigit(c byte) bool  { return '0' <= c && c <= '9' }

// Number reads a number of at most so many digits. Only the text that a number is written as stands for it:
// this rules out a plus sign, leading zeros and "-0".
func Number(s string, digits int) (int, bool) {
	if len(strings.TrimPrefix(s, "-")) > digits {
		return 0, false
	}
	n, err := strconv.Atoi(s)
	if err != nil || strconv.Itoa(n) != s {
		return 0, false
	}
	return n, true
}

// Numbers reads words as numbers of at most so many digits; it says whether there are as many words, and all are ones.
// Otherwise some of the numbers may be read already.
func Numbers(words []string, digits int, numbers ...*int) bool {
	if len(words) != len(numbers) {
		return false
	}
	for i, word := range words {
		n, ok := Number(word, digits)
		if !ok {
			return false
		}
		*numbers[i] = n
	}
	return true
}
