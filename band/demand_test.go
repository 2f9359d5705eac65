package band_test

import (
	"strconv"
	"strings"
	"testing"

	"etalon/api"
	"etalon/band"
)

// P4.1: CheckDemand.
func TestCheckDemand(t *testing.T) {
	for text, d := range rightDemands() {
		wantError(t, text, band.CheckDemand(d), api.OK)
	}
	for _, x := range wrongDemands() {
		wantError(t, x.name, band.CheckDemand(x.d), x.errno)
	}
}

// P4.1: FormatDemand of right demands, and of wrong ones.
func TestFormatDemand(t *testing.T) {
	for text, d := range rightDemands() {
		if got := band.FormatDemand(d); got != text {
			t.Errorf("%q; want %q", got, text)
		}
	}
	for _, x := range wrongDemands() {
		if got := band.FormatDemand(x.d); (got == "") != (x.errno == api.ErrKind) {
			t.Errorf("%s: %q", x.name, got)
		}
	}
	wrong := api.BandDemand{Share: 1, Polar: 1, Index: -1, Sine: span(-9223372036854775808, 9223372036854775807), Wave: span(7, 6), Least: 20000, Most: -3}
	if got := band.FormatDemand(wrong); got != "transmitted p -1 -9223372036854775808 9223372036854775807 7 6 20000 -3" {
		t.Errorf("a wrong demand: %q", got)
	}
}

// P4.1, P4.12: ParseDemand undoes FormatDemand.
func TestParseDemand(t *testing.T) {
	for text, want := range rightDemands() {
		d, e := band.ParseDemand(text)
		wantSame(t, text, d, e, want, api.OK)
	}
	r := draws(1)
	for range 3000 {
		want := drawnDemand(r, nil, api.Substrate{Index: 15000})
		d, e := band.ParseDemand(band.FormatDemand(want))
		wantSame(t, "a right demand", d, e, want, api.OK)
	}
	for _, x := range wrongDemands() {
		text, errno := band.FormatDemand(x.d), x.errno
		for _, word := range strings.Fields(text) {
			if len(strings.TrimPrefix(word, "-")) > 7 && word[0] <= '9' {
				errno = api.ErrSyntax
			}
		}
		if errno == api.ErrKind {
			errno = api.ErrSyntax
		}
		d, e := band.ParseDemand(text)
		wantSame(t, x.name, d, e, api.BandDemand{}, errno)
	}
}

// P4.1, R9: texts that are none.
func TestParseNoDemand(t *testing.T) {
	right := "reflected s 10000 0 0 4000 4000 0 100"
	words := strings.Split(right, " ")
	texts := []string{
		"", " ", "reflected", " " + right, right + " ", right + " 0", right + "\n", "\n" + right, right + "\x00", strings.ToUpper(right),
		strings.ReplaceAll(right, " ", "  "), strings.ReplaceAll(right, " ", "\t"), strings.ReplaceAll(right, " ", ","),
		strings.ReplaceAll(right, "reflected", "reflect"), strings.ReplaceAll(right, "reflected", "Reflected"),
		strings.ReplaceAll(right, "reflected", ""), strings.ReplaceAll(right, "reflected", "0"),
		strings.ReplaceAll(right, " s ", " S "), strings.ReplaceAll(right, " s ", " sp "), strings.ReplaceAll(right, " s ", "  "),
		strings.ReplaceAll(right, " s ", " 0 "), "s reflected 10000 0 0 4000 4000 0 100",
		strings.Repeat(" ", 8), strings.Repeat("0 ", 60000), strings.Repeat("9", 60000), right + strings.Repeat(" 0", 30000),
	}
	for cut := range right {
		// Of the cut texts just those that end in a number, and have all words, are ones.
		if cut < len(right)-2 {
			texts = append(texts, right[:cut])
		}
	}
	for i := range words[2:] {
		for _, no := range []string{"", "+1", "01", "-0", "--1", "1.0", "1e3", "0x1", "1_0", "a", "12345678", "-12345678", "00000000", "٣", "1\n", "99999999999999999999"} {
			changed := append([]string{}, words...)
			changed[2+i] = no
			texts = append(texts, strings.Join(changed, " "))
		}
		gone := append(append([]string{}, words[:2+i]...), words[3+i:]...)
		texts = append(texts, strings.Join(gone, " "))
	}
	for _, text := range texts {
		d, e := band.ParseDemand(text)
		if d != (api.BandDemand{}) || e != api.ErrSyntax {
			t.Errorf("%.80q: %v, %d", text, d, e)
		}
	}
	// A number of 7 digits is one, and so is one below 0: what they say is looked at behind the text.
	for i := range words[2:] {
		for _, n := range []int{9999999, -9999999} {
			changed := append([]string{}, words...)
			changed[2+i] = strconv.Itoa(n)
			d, e := band.ParseDemand(strings.Join(changed, " "))
			wantSame(t, "7 digits", d, e, api.BandDemand{}, api.ErrRange)
		}
	}
	for text, want := range map[string]api.Errno{right[:len(right)-1]: api.OK, right[:len(right)-2]: api.OK, "reflected s 10000 1 0 4000 4000 0 12345678": api.ErrSyntax} {
		_, e := band.ParseDemand(text)
		wantError(t, text, e, want)
	}
}

// R2: no text makes ParseDemand panic; what it reads is written as the same text.
func TestParseAnything(t *testing.T) {
	r := draws(2)
	pieces := []string{"reflected", "transmitted", "absorbed", "s", "p", "10000", "0", "4000", "5000", "100", "-1", "01", "", " ", "x"}
	right := 0
	for range 60000 {
		words := []string{pieces[r.IntN(3)], pieces[3+r.IntN(2)], "10000", "0", "100", "4000", "5000", "0", "10000"}
		for range r.IntN(3) {
			words[r.IntN(len(words))] = pieces[r.IntN(len(pieces))]
		}
		s := strings.Join(words, " ")
		d, e := band.ParseDemand(s)
		if e == api.OK {
			right++
			if again := band.FormatDemand(d); again != s {
				t.Fatalf("%q is read as %q", s, again)
			}
		} else if d != (api.BandDemand{}) {
			t.Fatalf("%q: %v, %d", s, d, e)
		}
	}
	wantSeen(t, "right texts", right, 10000)
}
