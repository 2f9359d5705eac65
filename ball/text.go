package ball

import (
	"strconv"
	"strings"

	"etalon/api"
	"etalon/text"
)

// mostDigits is how many digits the numbers of a text may have.
const mostDigits = 9

// Format returns the text of a ball, "" of what is none.
func Format(b api.Ball) string {
	s, _ := ofOne(b, func(b disc) (string, api.Errno) {
		parts := b.parts()
		return strconv.Itoa(parts[0]) + " " + strconv.Itoa(parts[1]) + " " + strconv.Itoa(b.radius), api.OK
	})
	return s
}

// Parse returns the ball with this text.
func Parse(s string) (api.Ball, api.Errno) {
	// One more than three words is enough to see that there are too many.
	words := strings.SplitN(s, " ", 4)
	var x, y, r int
	if !text.Numbers(words, mostDigits, &x, &y, &r) {
		return api.Ball{}, api.ErrSyntax
	}
	b := api.Ball{Z: complex128(centreAt(x, y)), R: r}
	if e := CheckBall(b); e != api.OK {
		return api.Ball{}, e
	}
	return b, api.OK
}
