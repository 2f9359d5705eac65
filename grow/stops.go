package grow

import (
	"strconv"
	"strings"

	"etalon/api"
	"etalon/span"
	"etalon/text"
	"etalon/whole"
)

const (
	blank      = " "
	stopWords  = 3 // words of the text of a stop
	mostDigits = 7 // digits of its numbers
)

// numbers returns the numbers of a stop, in the order of its text.
func numbers(s *api.GrowStop) []*int { return []*int{&s.Layer, &s.Thick.Lo, &s.Thick.Hi} }

// FormatStop returns the text of a stop, also of a wrong one.
func FormatStop(s api.GrowStop) string {
	var words []string
	for _, n := range numbers(&s) {
		words = append(words, strconv.Itoa(*n))
	}
	return strings.Join(words, blank)
}

// ParseStop returns the stop with this text.
func ParseStop(s string) (api.GrowStop, api.Errno) {
	var stop api.GrowStop
	// Words too many stay with the last one, which is no number then.
	if !text.Numbers(strings.SplitN(s, blank, stopWords), mostDigits, numbers(&stop)...) {
		return api.GrowStop{}, api.ErrSyntax
	}
	if !whole.Within(stop.Layer, 0, api.MaxLayers-1) {
		return api.GrowStop{}, api.ErrRange
	}
	if e := span.Check(stop.Thick, 0, api.MaxThick); e != api.OK {
		return api.GrowStop{}, e
	}
	return stop, api.OK
}
