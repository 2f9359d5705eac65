package meter

import (
	"strconv"
	"strings"

	"etalon/api"
	"etalon/text"
)

const (
	blank        = " "
	lineFeed     = "\n"
	readingWords = 10    // words of the text of a reading
	mostDigits   = 7     // digits of its numbers
	checkTimes   = 31    // what each byte multiplies a check by
	checkPrime   = 65521 // checks are modulo this prime
)

// numbers returns the numbers of a reading, in the order of its text.
func numbers(r *api.Reading) []*int {
	return []*int{&r.Wave, &r.At.Index, &r.At.Sine, &r.N.Lo, &r.N.Hi, &r.C.Lo, &r.C.Hi, &r.S.Lo, &r.S.Hi}
}

// FormatReading returns the text of a reading, also of a wrong one.
func FormatReading(r api.Reading) string {
	words := []string{r.Name}
	for _, n := range numbers(&r) {
		words = append(words, strconv.Itoa(*n))
	}
	return strings.Join(words, blank)
}

// ParseReading returns the reading with this text.
func ParseReading(s string) (api.Reading, api.Errno) {
	r, ok := readReading(s)
	if !ok {
		return api.Reading{}, api.ErrSyntax
	}
	if e := CheckReading(r); e != api.OK {
		return api.Reading{}, e
	}
	return r, api.OK
}

// readReading returns the reading with a text, right or wrong, and whether the text is one.
func readReading(s string) (api.Reading, bool) {
	// Words too many stay with the last one, which is no number then.
	words := strings.SplitN(s, blank, readingWords)
	// A part of the text would be memory of the argument.
	r := api.Reading{Name: strings.Clone(words[0])}
	if strings.Contains(r.Name, lineFeed) || !text.Numbers(words[1:], mostDigits, numbers(&r)...) {
		return api.Reading{}, false
	}
	return r, true
}

// checkOf returns the check of a text in the line with a number.
func checkOf(s string, line int) int {
	check := line
	for i := range len(s) {
		check = (check*checkTimes + int(s[i])) % checkPrime
	}
	return check
}

// Print returns the text of readings, each in a line with its check.
func Print(l []api.Reading) (string, api.Errno) {
	if len(l) > api.MaxReadings {
		return "", api.ErrLarge
	}
	var all strings.Builder
	for i, r := range l {
		if e := CheckReading(r); e != api.OK {
			return "", e
		}
		s := FormatReading(r)
		all.WriteString(s + blank + strconv.Itoa(checkOf(s, i+1)) + lineFeed)
	}
	return all.String(), api.OK
}

// Parse returns the readings with a text. Beside an error stands the number of the line that is wrong.
func Parse(t string) ([]api.Reading, int, api.Errno) {
	if len(t) > api.MaxText {
		return nil, 0, api.ErrLarge
	}
	var l []api.Reading
	for line := range strings.Lines(t) {
		r, e := parseLine(line, len(l)+1)
		if e != api.OK {
			return nil, len(l) + 1, e
		}
		l = append(l, r)
	}
	// A line that is wrong is told first, wherever it stands.
	if len(l) > api.MaxReadings {
		return nil, 0, api.ErrLarge
	}
	return l, 0, api.OK
}

// parseLine returns the reading of the line with a number.
func parseLine(line string, number int) (api.Reading, api.Errno) {
	line, ended := strings.CutSuffix(line, lineFeed)
	last := strings.LastIndex(line, blank)
	if !ended || last < 0 {
		return api.Reading{}, api.ErrSyntax
	}
	var check int
	r, ok := readReading(line[:last])
	if !ok || !text.Numbers([]string{line[last+1:]}, mostDigits, &check) {
		return api.Reading{}, api.ErrSyntax
	}
	if e := CheckReading(r); e != api.OK {
		return api.Reading{}, e
	}
	if check != checkOf(line[:last], number) {
		return api.Reading{}, api.ErrSum
	}
	return r, api.OK
}
