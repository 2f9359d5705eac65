package meter_test

import (
	"math"
	"math/big"
	"slices"
	"strconv"
	"strings"
	"testing"

	"etalon/api"
	"etalon/meter"
)

// example is the text of the reading of the chapter's examples.
const example = "p 6328 10000 7071 -10 10 0 5 -5 0"

// P6.7: FormatReading writes any reading.
func TestFormatReading(t *testing.T) {
	for _, x := range []struct {
		r    api.Reading
		want string
	}{
		{right(), example},
		{api.Reading{}, " 0 0 0 0 0 0 0 0 0"},
		{api.Reading{Name: "a b\n", Wave: math.MinInt, At: api.Incidence{Index: 2, Sine: math.MaxInt}, N: span(4, 3), C: span(6, 5), S: span(-8, -9)}, "a b\n -9223372036854775808 2 9223372036854775807 4 3 6 5 -8 -9"},
		{reading(span(-one, one), single(-one), single(one)), "p 6328 10000 7071 -1048576 1048576 -1048576 -1048576 1048576 1048576"},
	} {
		if got := meter.FormatReading(x.r); got != x.want {
			t.Errorf("%v: %q; want %q", x.r, got, x.want)
		}
	}
}

// wrongForms are texts that are no texts of readings.
func wrongForms() []string {
	l := []string{
		"", " ", "p", "p ", strings.Repeat(" ", 9), strings.Repeat(" ", 10), example + " ", " " + example, example + " 0", example + "\n", "\n" + example, "p\nq" + example[1:],
		"p 6328 10000 7071 -10 10 0 5 -5", strings.Replace(example, " 6328", "  6328", 1), strings.Replace(example, " ", "\t", 1), strings.ReplaceAll(example, " ", ","),
		"p q 6328 10000 7071 -10 10 0 5 -5 0", example + "\x00", "p 6328 10000 7071 -10 10 0 5 -5 O", strings.Repeat("9", 50000), strings.Repeat(" 9", 25000),
	}
	words := strings.Split(example, " ")
	for i := range words {
		if i == 0 {
			continue
		}
		for _, word := range []string{"", "-", "+1", "-0", "00", "01", "-01", "1.0", "1e3", "0x1", "12345678", "-12345678", "00000001", "99999999999999999999", "a", "٣"} {
			wrong := slices.Clone(words)
			wrong[i] = word
			l = append(l, strings.Join(wrong, " "))
		}
	}
	return l
}

// P6.7: ParseReading.
func TestParseReading(t *testing.T) {
	for _, s := range wrongForms() {
		r, e := meter.ParseReading(s)
		wantSame(t, strconv.Quote(s[:min(len(s), 80)]), r, e, api.Reading{}, api.ErrSyntax)
	}
	for _, x := range []struct {
		s     string
		want  api.Reading
		errno api.Errno
	}{
		{example, right(), api.OK},
		{"p 6328 10000 7071 -1048576 1048576 -1048576 -1048576 1048576 1048576", reading(span(-one, one), single(-one), single(one)), api.OK},
		{" 6328 10000 7071 0 0 0 0 0 0", api.Reading{}, api.ErrName},
		{"p\tq 6328 10000 7071 0 0 0 0 0 0", api.Reading{}, api.ErrName},
		{"\x00\xff 6328 10000 7071 0 0 0 0 0 0", api.Reading{}, api.ErrName},
		{strings.Repeat("p", 70000) + " 6328 10000 7071 0 0 0 0 0 0", api.Reading{}, api.ErrName},
		{"7 999 4999 10000 1 0 1 0 1 0", api.Reading{}, api.ErrName},
		{"p 999 4999 10000 1 0 1 0 1 0", api.Reading{}, api.ErrRange},
		{"p 1000 5000 10000 1 0 1 0 1 0", api.Reading{}, api.ErrRange},
		{"p 9999999 5000 0 0 0 0 0 0 0", api.Reading{}, api.ErrRange},
		{"p 1000 5000 0 0 1048577 0 0 0 0", api.Reading{}, api.ErrRange},
		{"p 1000 5000 0 1 0 1048577 0 0 0", api.Reading{}, api.ErrOrder},
		{"p 1000 5000 0 0 0 0 0 -9999999 0", api.Reading{}, api.ErrRange},
		{"p 1000 5000 0 0 0 0 0 0 -1", api.Reading{}, api.ErrOrder},
		{"p 1000 5000 0 0 0 0 0 0 0", api.Reading{Name: "p", Wave: 1000, At: api.Incidence{Index: 5000}}, api.OK},
	} {
		r, e := meter.ParseReading(x.s)
		wantSame(t, x.s[:min(len(x.s), 80)], r, e, x.want, x.errno)
	}
}

// bookCheck returns the check of a text in a line: a number to the base 31, of any size, of which the rest is taken once.
func bookCheck(s string, line int) int {
	sum, base := big.NewInt(int64(line)), big.NewInt(31)
	for i := range len(s) {
		sum.Mul(sum, base).Add(sum, big.NewInt(int64(s[i])))
	}
	return int(sum.Mod(sum, big.NewInt(65521)).Int64())
}

// line returns a line with a right check.
func line(s string, number int) string { return s + " " + strconv.Itoa(bookCheck(s, number)) + "\n" }

// manyLines returns so many right lines.
func manyLines(n int) string {
	var all strings.Builder
	for i := range n {
		all.WriteString(line(example, i+1))
	}
	return all.String()
}

// P6.7: Print.
func TestPrint(t *testing.T) {
	other := api.Reading{Name: "Q-9", Wave: api.MaxWave, At: api.Incidence{Index: api.MaxIndex, Sine: 9999}, N: single(one), C: single(-one), S: span(-one, one)}
	for _, x := range []struct {
		l     []api.Reading
		want  string
		errno api.Errno
	}{
		{nil, "", api.OK},
		{[]api.Reading{}, "", api.OK},
		{[]api.Reading{right()}, example + " 17451\n", api.OK},
		{[]api.Reading{right(), right()}, example + " 17451\n" + line(example, 2), api.OK},
		{[]api.Reading{other, right()}, line("Q-9 200000 80000 9999 1048576 1048576 -1048576 -1048576 -1048576 1048576", 1) + line(example, 2), api.OK},
		{slices.Repeat([]api.Reading{right()}, 20), manyLines(20), api.OK},
		{slices.Repeat([]api.Reading{right()}, 21), "", api.ErrLarge},
		{make([]api.Reading, 21), "", api.ErrLarge},
		{[]api.Reading{right(), {Name: "p"}, {}}, "", api.ErrRange},
		{[]api.Reading{right(), {}, {Name: "p"}}, "", api.ErrName},
	} {
		got, e := meter.Print(x.l)
		wantSame(t, "print", got, e, x.want, x.errno)
	}
	for _, d := range readingDefects() {
		r := right()
		d.do(&r)
		got, e := meter.Print([]api.Reading{right(), r})
		wantSame(t, d.name, got, e, "", d.errno)
	}
}

// wantParsed reports readings, a number or an error that are not the expected ones.
func wantParsed(t *testing.T, s string, want []api.Reading, number int, errno api.Errno) {
	t.Helper()
	l, n, e := meter.Parse(s)
	if !slices.Equal(l, want) || n != number || e != errno {
		t.Errorf("%q: %v, %d, %d; want %v, %d, %d", s[:min(len(s), 200)], l, n, e, want, number, errno)
	}
}

// P6.7: Parse.
func TestParse(t *testing.T) {
	wantParsed(t, "", nil, 0, api.OK)
	for n := range 23 {
		if n > 20 {
			wantParsed(t, manyLines(n), nil, 0, api.ErrLarge)
		} else {
			wantParsed(t, manyLines(n), slices.Repeat([]api.Reading{right()}, n), 0, api.OK)
		}
	}
	// What is wrong with the last line, behind some right ones.
	for _, before := range []int{0, 1, 19, 20, 30} {
		number := before + 1
		good := line(example, number)
		last := func(s string, errno api.Errno) {
			t.Helper()
			wantParsed(t, manyLines(before)+s, nil, number, errno)
			wantParsed(t, manyLines(before)+s+"wrong\n", nil, number, errno)
		}
		for _, s := range wrongForms() {
			if !strings.Contains(s, "\n") {
				last(line(s, number), api.ErrSyntax)
			}
		}
		for _, s := range []string{"\n", " \n", example + "\n", example + " \n", good[:len(good)-1] + " \n", good[:len(good)-1] + "\r\n", " " + good, "1 " + good, "\n" + good} {
			last(s, api.ErrSyntax)
		}
		for _, check := range []string{"01", "-0", "+1", "00", "0" + strconv.Itoa(bookCheck(example, number)), "12345678", "-12345678", "x", "1.0", "", "99999999999999999999"} {
			last(example+" "+check+"\n", api.ErrSyntax)
		}
		sum := bookCheck(example, number)
		for _, check := range []int{sum + 1, sum - 1, sum + 65521, -sum, bookCheck(example, number+1), bookCheck(example, 0), 9999999, -9999999, 65521} {
			last(example+" "+strconv.Itoa(check)+"\n", api.ErrSum)
		}
		// The reading's error is told ahead of a wrong check, but behind a wrong form.
		for s, errno := range map[string]api.Errno{
			" 6328 10000 7071 0 0 0 0 0 0": api.ErrName, "p\tq 6328 10000 7071 0 0 0 0 0 0": api.ErrName, "p 999 10000 7071 0 0 0 0 0 0": api.ErrRange, "p 6328 10000 7071 1 0 0 0 0 0": api.ErrOrder,
		} {
			last(line(s, number), errno)
			last(s+" 1\n", errno)
			last(s+" 01\n", api.ErrSyntax)
		}
		// Without a line feed.
		for _, s := range []string{good[:len(good)-1], example, "p", " ", "7 1 1 1 1 1 1 1 1 1 1"} {
			wantParsed(t, manyLines(before)+s, nil, number, api.ErrSyntax)
		}
	}
}

// P6.7: each byte, and the number of the line, counts for the check; a text may have MaxText bytes.
func TestChecksAndSizes(t *testing.T) {
	two := line(example, 1) + line("q"+example[1:], 2)
	for i := range len(two) {
		for _, c := range []byte{'0', '1', '9', '-', 'x'} {
			s := two[:i] + string(c) + two[i+1:]
			if l, _, e := meter.Parse(s); e == api.OK && s != two {
				t.Errorf("%q: %v", s, l)
			}
		}
		if l, _, e := meter.Parse(two[:i] + two[i+1:]); e == api.OK {
			t.Errorf("without the byte %d: %v", i, l)
		}
	}
	wantParsed(t, line("q"+example[1:], 1)+line(example, 1), nil, 2, api.ErrSum)
	tail := example[1:] + " 0\n"
	wantParsed(t, strings.Repeat("p", api.MaxText-len(tail))+tail, nil, 1, api.ErrName)
	wantParsed(t, strings.Repeat("p", api.MaxText-len(tail)+1)+tail, nil, 0, api.ErrLarge)
	wantParsed(t, strings.Repeat("\n", api.MaxText), nil, 1, api.ErrSyntax)
	wantParsed(t, strings.Repeat("\n", api.MaxText+1), nil, 0, api.ErrLarge)
	wantParsed(t, manyLines(api.MaxText/len(line(example, 1))-100), nil, 0, api.ErrLarge)
}
