package ball

import (
	"strconv"
	"strings"

	"etalon/api"
)

// mostNumber is the greatest number of 9 digits.
const mostNumber = 999999999

// Format returns the text of a ball, "" of what is none.
func Format(b api.Ball) string {
	text, _ := ofOne(b, func(b disc) (string, api.Errno) {
		parts := b.parts()
		return strconv.Itoa(parts[0]) + " " + strconv.Itoa(parts[1]) + " " + strconv.Itoa(b.radius), api.OK
	})
	return text
}

// Parse returns the ball with this text.
func Parse(s string) (api.Ball, api.Errno) {
	// One more than three words is enough to see that there are too many.
	words := strings.SplitN(s, " ", 4)
	if len(words) != 3 {
		return api.Ball{}, api.ErrSyntax
	}
	var numbers [3]int
	for i, word := range words {
		n, ok := number(word)
		if !ok {
			return api.Ball{}, api.ErrSyntax
		}
		numbers[i] = n
	}
	b := api.Ball{Z: complex128(centreAt(numbers[0], numbers[1])), R: numbers[2]}
	if e := CheckBall(b); e != api.OK {
		return api.Ball{}, e
	}
	return b, api.OK
}

// number reads a number of at most 9 digits. Only the text that a number is written as stands for it:
// this rules out a plus sign, leading zeros and "-0".
func number(s string) (int, bool) {
	n, err := strconv.Atoi(s)
	if err != nil || !sized(n, mostNumber) || strconv.Itoa(n) != s {
		return 0, false
	}
	return n, true
}
