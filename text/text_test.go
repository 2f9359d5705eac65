package text_test

import (
	"strings"
	"testing"

	"etalon/text"
)

// Names are 1 to 12 letters, digits and "-", beginning with a letter.
func TestIsName(t *testing.T) {
	for _, s := range []string{"a", "Z", "z9", "A-", "a--0", "air", "BK7-2", "abcdefghijkl", "note"} {
		if !text.IsName(s) {
			t.Errorf("%q is a name", s)
		}
	}
	for _, s := range []string{
		"", "9", "-", "-a", "9a", " a", "a ", "a b", "a_", "a.b", "a\n", "\x00", "a\x00", "é", "aé", "@", "[", "`", "{", "a/", "a:",
		"abcdefghijklm", strings.Repeat("a", 60000),
	} {
		if text.IsName(s) {
			t.Errorf("%q is no name", s)
		}
	}
}

// Numbers are decimal, without leading zeros and plus signs, and have so many digits at most.
func TestNumber(t *testing.T) {
	for _, x := range []struct {
		s    string
		want int
	}{{"0", 0}, {"7", 7}, {"-7", -7}, {"10", 10}, {"999", 999}, {"-999", -999}} {
		if n, ok := text.Number(x.s, 3); n != x.want || !ok {
			t.Errorf("%q: %d, %v", x.s, n, ok)
		}
	}
	for _, s := range []string{
		"", "-", "--1", "+1", "-0", "00", "01", "-01", "000", "1000", "-1000", "0001", "1-", "1 ", " 1", "1.", ".1", "1e1",
		"0x1", "1_0", "a", "٣", "1\x00", "99999999999999999999", strings.Repeat("9", 60000),
	} {
		if n, ok := text.Number(s, 3); n != 0 || ok {
			t.Errorf("%q: %d, %v", s, n, ok)
		}
	}
	if n, ok := text.Number("999999999", 9); n != 999999999 || !ok {
		t.Errorf("9 digits: %d, %v", n, ok)
	}
	if n, ok := text.Number("99999999999999999999", 20); n != 0 || ok {
		t.Errorf("no int: %d, %v", n, ok)
	}
}

// Words are as many numbers, or none of them count.
func TestNumbers(t *testing.T) {
	var x, y int
	if !text.Numbers([]string{"-12", "345"}, 3, &x, &y) || x != -12 || y != 345 {
		t.Errorf("%d and %d", x, y)
	}
	if !text.Numbers(nil, 3) {
		t.Error("no words are no numbers")
	}
	for _, words := range [][]string{nil, {"1"}, {"1", "2", "3"}, {"1", "1234"}, {"a", "1"}, {"1", ""}, {"1", "02"}, {"-0", "1"}} {
		if text.Numbers(words, 3, &x, &y) {
			t.Errorf("%q", words)
		}
	}
}
