package glass_test

import (
	"slices"
	"strconv"
	"strings"
	"testing"

	"etalon/api"
	"etalon/glass"
)

// sameGlass says whether two materials are the same; a nil list and an empty one are.
func sameGlass(a, b api.Glass) bool {
	return a.Name == b.Name && a.Kind == b.Kind && a.Cauchy == b.Cauchy &&
		slices.Equal(a.Waves, b.Waves) && slices.Equal(a.Index, b.Index) && slices.Equal(a.Loss, b.Loss)
}

// wantParsed reports what Parse makes of a text if it is not the expected one.
func wantParsed(t *testing.T, text string, want []api.Glass, place api.TextMark, errno api.Errno) {
	t.Helper()
	l, m, e := glass.Parse(text)
	if !slices.EqualFunc(l, want, sameGlass) || m != place || e != errno {
		if len(text) > 300 {
			text = text[:100] + " .. " + text[len(text)-100:]
		}
		t.Errorf("%q: %v, %v, %d; want %v, %v, %d", text, l, m, e, want, place, errno)
	}
}

// P2.5: Print.
func TestPrint(t *testing.T) {
	minus := sample()
	minus.Loss[0] = float32(minusZero)
	for _, x := range []struct {
		l    []api.Glass
		want string
	}{
		{nil, ""},
		{[]api.Glass{}, ""},
		{[]api.Glass{called("air", table([3]int{5000, 10000, 0}))}, "glass air\nrow 5000 10000 0\n"},
		{[]api.Glass{sample(), formula(14500, 400)}, "glass a\nrow 5000 15000 100\nrow 6000 14000 300\nglass b\ncauchy 14500 400\n"},
		{[]api.Glass{formula(60000, 0), called("note", minus)}, "glass b\ncauchy 60000 0\nglass note\nrow 5000 15000 0\nrow 6000 14000 300\n"},
	} {
		got, e := glass.Print(x.l)
		wantSame(t, "Print", got, e, x.want, api.OK)
	}
	for _, x := range wrongGlasses() {
		got, e := glass.Print([]api.Glass{formula(15000, 0), x.g})
		wantSame(t, x.name, got, e, "", x.errno)
	}
	got, e := glass.Print(numbered(21))
	wantSame(t, "too many", got, e, "", api.ErrLarge)
	got, e = glass.Print([]api.Glass{sample(), sample()})
	wantSame(t, "a name twice", got, e, "", api.ErrExists)
}

// P2.5: Parse of right texts, also with other blanks, lines and notes.
func TestParse(t *testing.T) {
	air := called("air", table([3]int{5000, 10000, 0}))
	for _, text := range []string{
		"glass air\nrow 5000 10000 0\n",
		"glass air\nrow 5000 10000 0",
		"glass air\n\n\nrow 5000 10000 0\n\n",
		"\nglass air\n \t \nrow 5000 10000 0\n\t",
		"  glass \t air  \n\trow\t5000\t10000\t0\t\n",
		"note\nnote row glass\nglass air\nnote -0 \x00 é\n  note\nrow 5000 10000 0\nnote glass b\n",
	} {
		wantParsed(t, text, []api.Glass{air}, mark(0, 0), api.OK)
	}
	for _, text := range []string{"", "\n", " ", "\t\n \n", "note", "note glass\n", " note"} {
		wantParsed(t, text, nil, mark(0, 0), api.OK)
	}
	wantParsed(t, "glass note\ncauchy 5000 20000\nglass glass\nrow 1000 5000 0\nrow 200000 80000 80000\nglass row\ncauchy 60000 0\n", []api.Glass{
		called("note", formula(5000, 20000)),
		called("glass", table([3]int{1000, 5000, 0}, [3]int{200000, 80000, 80000})),
		called("row", formula(60000, 0)),
	}, mark(0, 0), api.OK)
}

// P2.5: errors of the first word of a line.
func TestParseFirstWord(t *testing.T) {
	twenty := printed(t, numbered(20))
	long := printed(t, []api.Glass{longTable(64)})
	for _, x := range []struct {
		text  string
		place api.TextMark
		errno api.Errno
	}{
		{"row 5000 1 1\n", mark(1, 1), api.ErrSyntax},
		{"cauchy 15000 0\n", mark(1, 1), api.ErrSyntax},
		{"\n  row 5000 1 1\n", mark(2, 3), api.ErrSyntax},
		{"note\nfoo", mark(2, 1), api.ErrSyntax},
		{"\tGlass a", mark(1, 2), api.ErrSyntax},
		{"glassa", mark(1, 1), api.ErrSyntax},
		{"notes", mark(1, 1), api.ErrSyntax},
		{"glass\r\n", mark(1, 1), api.ErrSyntax},
		{"\r\n", mark(1, 1), api.ErrSyntax},
		{"glass\u00a0a", mark(1, 1), api.ErrSyntax},
		{"glass a\nglass b\n", mark(1, 1), api.ErrShape},
		{"glass a", mark(1, 1), api.ErrShape},
		{"\n  glass a\nnote\n\n", mark(2, 3), api.ErrShape},
		{"glass a\ncauchy 15000 0\n glass b\nglass 0", mark(3, 2), api.ErrShape},
		{"glass a\nglass", mark(1, 1), api.ErrShape},
		{"glass a\nfoo\nglass b", mark(2, 1), api.ErrSyntax},
		{"glass a b", mark(1, 9), api.ErrSyntax},
		{twenty + "glass b\n", mark(41, 1), api.ErrLarge},
		{twenty + " glass 0 0\n", mark(41, 2), api.ErrLarge},
		{twenty + "glass", mark(41, 1), api.ErrLarge},
		{strings.TrimSuffix(twenty, "cauchy 15000 19\n") + "glass b\n", mark(39, 1), api.ErrShape},
		{long + "row 10000 15000 0\n", mark(66, 1), api.ErrLarge},
		{long + "row", mark(66, 1), api.ErrLarge},
		{long + "cauchy 15000 0\n", mark(66, 1), api.ErrClash},
		{"glass a\ncauchy 15000 0\nrow 5000 15000 0\n", mark(3, 1), api.ErrClash},
		{"glass a\ncauchy 15000 0\n\t cauchy 15000 0\n", mark(3, 3), api.ErrClash},
		{"glass a\ncauchy 15000 0\nrow\n", mark(3, 1), api.ErrClash},
		{"glass a\nrow 5000 15000 0\ncauchy 0 0 0\n", mark(3, 1), api.ErrClash},
		{"glass a\nrow 5000 15000 0\ncauchyy\n", mark(3, 1), api.ErrSyntax},
	} {
		wantParsed(t, x.text, nil, x.place, x.errno)
	}
}

// P2.5: errors of names.
func TestParseNames(t *testing.T) {
	for _, x := range []struct {
		text  string
		place api.TextMark
		errno api.Errno
	}{
		{"glass", mark(1, 6), api.ErrMissing},
		{"glass\n", mark(1, 6), api.ErrMissing},
		{" glass \t \nrow", mark(1, 7), api.ErrMissing},
		{"glass 0", mark(1, 7), api.ErrName},
		{"glass  abcdefghijklm 0", mark(1, 8), api.ErrName},
		{"glass a\r\n", mark(1, 7), api.ErrName},
		{"glass a_b", mark(1, 7), api.ErrName},
		{"glass a\ncauchy 15000 0\nglass a\n", mark(3, 7), api.ErrExists},
		{"glass a\ncauchy 15000 0\nglass b\nrow 5000 15000 0\nglass a x\n", mark(5, 7), api.ErrExists},
		{"glass a a\n", mark(1, 9), api.ErrSyntax},
		{"glass a\ncauchy 15000 0\nglass b a b\n", mark(3, 9), api.ErrSyntax},
	} {
		wantParsed(t, x.text, nil, x.place, x.errno)
	}
}

// P2.5: errors of numbers, of words that are missing, and of one word more.
func TestParseNumbers(t *testing.T) {
	for _, x := range []struct {
		line  string
		place api.TextMark
		errno api.Errno
	}{
		{"row", mark(3, 4), api.ErrMissing},
		{"row 5000", mark(3, 5), api.ErrOrder},
		{"  row  5001\t", mark(3, 12), api.ErrMissing},
		{"row 5001", mark(3, 9), api.ErrMissing},
		{"row 5001 15000 \t", mark(3, 15), api.ErrMissing},
		{"row x 5000", mark(3, 5), api.ErrSyntax},
		{"row 5001.5", mark(3, 5), api.ErrSyntax},
		{"row +5001", mark(3, 5), api.ErrSyntax},
		{"row 05001", mark(3, 5), api.ErrSyntax},
		{"row -0", mark(3, 5), api.ErrSyntax},
		{"row 10000000", mark(3, 5), api.ErrSyntax},
		{"row -10000000", mark(3, 5), api.ErrSyntax},
		{"row 9999999", mark(3, 5), api.ErrRange},
		{"row -9999999", mark(3, 5), api.ErrRange},
		{"row 999", mark(3, 5), api.ErrRange},
		{"row 200001", mark(3, 5), api.ErrRange},
		{"row 5000 x", mark(3, 5), api.ErrOrder},
		{"row 4999", mark(3, 5), api.ErrOrder},
		{"row 5001 x 0", mark(3, 10), api.ErrSyntax},
		{"row 5001 4999 x", mark(3, 10), api.ErrRange},
		{"row 5001 80001", mark(3, 10), api.ErrRange},
		{"row 5001 5000 x 0", mark(3, 15), api.ErrSyntax},
		{"row 5001 5000 -0", mark(3, 15), api.ErrSyntax},
		{"row 5001 5000 -1 0", mark(3, 15), api.ErrRange},
		{"row 5001 5000 80001", mark(3, 15), api.ErrRange},
		{"row 5001 5000 80000 0", mark(3, 21), api.ErrSyntax},
		{"row 5001 5000 0  note 0", mark(3, 18), api.ErrSyntax},
	} {
		wantParsed(t, "glass a\nrow 5000 15000 0\n"+x.line, nil, x.place, x.errno)
		wantParsed(t, "glass a\nrow 5000 15000 0\n"+x.line+"\nfoo\n", nil, x.place, x.errno)
	}
	for _, x := range []struct {
		line  string
		place api.TextMark
		errno api.Errno
	}{
		{"cauchy", mark(2, 7), api.ErrMissing},
		{"cauchy 15000 ", mark(2, 13), api.ErrMissing},
		{"cauchy x", mark(2, 8), api.ErrSyntax},
		{"cauchy 12345678", mark(2, 8), api.ErrSyntax},
		{"cauchy 4999 x", mark(2, 8), api.ErrRange},
		{"cauchy 60001", mark(2, 8), api.ErrRange},
		{"cauchy 60000 x x", mark(2, 14), api.ErrSyntax},
		{"cauchy 5000 -1", mark(2, 13), api.ErrRange},
		{"cauchy 5000 20001", mark(2, 13), api.ErrRange},
		{"cauchy 5000 20000 x", mark(2, 19), api.ErrSyntax},
		{"row 999 5000", mark(2, 5), api.ErrRange},
		{"row 1000", mark(2, 9), api.ErrMissing},
	} {
		wantParsed(t, "glass a\n"+x.line, nil, x.place, x.errno)
		wantParsed(t, "glass a\n"+x.line+"\nglass b", nil, x.place, x.errno)
	}
}

// P2.5: long texts.
func TestParseLong(t *testing.T) {
	text := "glass air\nrow 5000 10000 0\n"
	long := text + strings.Repeat("\n", api.MaxText-len(text))
	wantParsed(t, long, []api.Glass{called("air", table([3]int{5000, 10000, 0}))}, mark(0, 0), api.OK)
	wantParsed(t, long+"\n", nil, mark(0, 0), api.ErrLarge)
	wantParsed(t, strings.Repeat("x", api.MaxText+1), nil, mark(0, 0), api.ErrLarge)
	wantParsed(t, strings.Repeat("x", api.MaxText), nil, mark(1, 1), api.ErrSyntax)
	wantParsed(t, "glass "+strings.Repeat("x", api.MaxText-6), nil, mark(1, 7), api.ErrName)
	wantParsed(t, strings.Repeat(" ", api.MaxText-1)+"x", nil, mark(1, api.MaxText), api.ErrSyntax)
	wantParsed(t, strings.Repeat("\n", api.MaxText-1)+"x", nil, mark(api.MaxText, 1), api.ErrSyntax)
}

// printed returns the text of a right catalogue.
func printed(t *testing.T, l []api.Glass) string {
	t.Helper()
	text, e := glass.Print(l)
	if e != api.OK {
		t.Fatalf("print: %d", e)
	}
	return text
}

// P2.9: Parse undoes Print, also of the greatest catalogue.
func TestParsePrint(t *testing.T) {
	r := draws(30)
	for range 500 {
		var l []api.Glass
		for i := range r.IntN(21) {
			l = append(l, called("n"+strconv.Itoa(i), drawnGlass(r)))
		}
		wantParsed(t, printed(t, l), l, mark(0, 0), api.OK)
	}
	var greatest []api.Glass
	for i := range 20 {
		var rows [][3]int
		for row := range 64 {
			rows = append(rows, [3]int{100000 + row, 80000, 80000})
		}
		greatest = append(greatest, called("abcdefghij"+strconv.Itoa(10+i), table(rows...)))
	}
	wantParsed(t, printed(t, greatest), greatest, mark(0, 0), api.OK)
}

// P2.5: a text that is cut is either right or has its error in its last line, or at the material that it breaks off in.
func TestParseCut(t *testing.T) {
	text := printed(t, []api.Glass{sample(), formula(14500, 400), called("c", bent())})
	for i := range len(text) {
		cut := text[:i]
		l, m, e := glass.Parse(cut)
		lines := strings.Count(cut, "\n") + 1
		switch {
		case e == api.OK:
			if _, wrong := glass.CheckCatalogue(l); wrong != api.OK || m != mark(0, 0) {
				t.Errorf("%q: %v, %v", cut, l, m)
			}
		case l != nil:
			t.Errorf("%q: %v beside %d", cut, l, e)
		case e == api.ErrShape:
			if m.Column != 1 || !strings.HasPrefix(strings.Split(cut, "\n")[m.Line-1], "glass ") {
				t.Errorf("%q: %v", cut, m)
			}
		case m.Line != lines:
			t.Errorf("%q: %v, %d", cut, m, e)
		}
	}
}
