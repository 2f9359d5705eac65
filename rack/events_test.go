package rack_test

import (
	"math"
	"strings"
	"testing"

	"etalon/api"
	"etalon/rack"
)

// rightEvents are events with their texts.
func rightEvents() map[string]api.PartEvent {
	return map[string]api.PartEvent{
		"coat p b1":                         coat("p", "b1"),
		"witness w b1":                      witness("w", "b1"),
		"strip p":                           strip("p"),
		"coat coat coat":                    coat("coat", "coat"),
		"witness strip witness":             witness("strip", "witness"),
		"strip strip":                       strip("strip"),
		"coat " + longName + " " + longName: coat(longName, longName),
		"strip " + longName:                 strip(longName),
		"witness A- Z9":                     witness("A-", "Z9"),
	}
}

// P9.5: FormatEvent writes any event.
func TestFormatEvent(t *testing.T) {
	wrong := map[string]api.PartEvent{
		"? p b":          {Kind: 3, Part: "p", Batch: "b"},
		"? q c":          {Kind: -1, Part: "q", Batch: "c"},
		"? q d":          {Kind: math.MaxInt, Part: "q", Batch: "d"},
		"? q e":          {Kind: math.MinInt, Part: "q", Batch: "e"},
		"? p ":           {Kind: 3, Part: "p"},
		"?  ":            {Kind: 3},
		"?  b":           {Kind: 4, Batch: "b"},
		"coat  ":         {},
		"coat p ":        coat("p", ""),
		"coat  b":        coat("", "b"),
		"witness  ":      witness("", ""),
		"strip ":         strip(""),
		"strip r":        {Kind: api.EventStrip, Part: "r", Batch: "b"},
		"coat a b c d":   coat("a b", "c d"),
		"witness 1 \n":   witness("1", "\n"),
		"strip \xff\x00": strip("\xff\x00"),
	}
	for _, events := range []map[string]api.PartEvent{rightEvents(), wrong} {
		for want, x := range events {
			if got := rack.FormatEvent(x); got != want {
				t.Errorf("%q; want %q", got, want)
			}
		}
	}
}

// P9.5: ParseEvent.
func TestParseEvent(t *testing.T) {
	for s, want := range rightEvents() {
		got, e := rack.ParseEvent(s)
		wantSame(t, s, got, e, want, api.OK)
	}
	for s, want := range map[string]api.Errno{
		"": api.ErrSyntax, " ": api.ErrSyntax, "   ": api.ErrSyntax, "coat": api.ErrSyntax, "witness": api.ErrSyntax, "strip": api.ErrSyntax,
		"coat p": api.ErrSyntax, "witness p": api.ErrSyntax, "coat p b c": api.ErrSyntax, "witness p b c": api.ErrSyntax, "strip p b": api.ErrSyntax, "strip p b c": api.ErrSyntax,
		"coat p ": api.ErrSyntax, "coat p b ": api.ErrSyntax, " coat p b": api.ErrSyntax, "coat  p b": api.ErrSyntax, "coat p  b": api.ErrSyntax, "coat  b": api.ErrSyntax,
		"witness w b1 ": api.ErrSyntax, " witness w b1": api.ErrSyntax, "witness  w b1": api.ErrSyntax, "witness w  b1": api.ErrSyntax,
		"strip ": api.ErrSyntax, "strip p ": api.ErrSyntax, " strip p": api.ErrSyntax, "strip  p": api.ErrSyntax, "strip  ": api.ErrSyntax, "coat  ": api.ErrSyntax,
		"? p b": api.ErrSyntax, "Coat p b": api.ErrSyntax, "coats p b": api.ErrSyntax, "coa p b": api.ErrSyntax, "p b c": api.ErrSyntax, "0 p b": api.ErrSyntax,
		"coat\tp b": api.ErrSyntax, "coat\np b": api.ErrSyntax, "\ncoat p b": api.ErrSyntax, "strip\x00 p": api.ErrSyntax, "stripp": api.ErrSyntax,
		"coat 1 b": api.ErrName, "coat p 1": api.ErrName, "coat 1 2": api.ErrName, "witness -a b": api.ErrName, "witness a _": api.ErrName, "strip 1": api.ErrName,
		"coat p\n b": api.ErrName, "coat p b\n": api.ErrName, "strip p\n": api.ErrName, "strip \n": api.ErrName, "coat p\tq b": api.ErrName, "witness \xff b": api.ErrName, "strip é": api.ErrName,
		"coat p b\x00": api.ErrName, "coat " + longName + "x b": api.ErrName, "coat p " + longName + "x": api.ErrName, "strip " + longName + "x": api.ErrName,
		// What is no text stands ahead of what is no name.
		"coat 1": api.ErrSyntax, "coat 1 2 ": api.ErrSyntax, "coat 1  2": api.ErrSyntax, "strip 1 2": api.ErrSyntax, "? 1 2": api.ErrSyntax,
		strings.Repeat(" ", 60000): api.ErrSyntax, strings.Repeat("coat ", 20000): api.ErrSyntax, "strip " + strings.Repeat("x", 60000): api.ErrName,
	} {
		got, e := rack.ParseEvent(s)
		wantSame(t, s[:min(len(s), 80)], got, e, api.PartEvent{}, want)
	}
}

// P9.10: ParseEvent undoes FormatEvent of right events; what it reads has just the text that it was read from.
func TestParseEventUndoes(t *testing.T) {
	r := draws(70)
	for range 3000 {
		for _, x := range drawnHistory(r) {
			got, e := rack.ParseEvent(rack.FormatEvent(x))
			wantSame(t, "an event", got, e, x, api.OK)
		}
	}
	seen := 0
	for range 60000 {
		words := []string{"coat", "witness", "strip", "p", "q-7", "", "1", "?"}
		s := words[r.IntN(3)]
		for range 1 + r.IntN(3) {
			s += " " + words[r.IntN(len(words))]
		}
		b := []byte(s)
		if r.IntN(4) == 0 {
			b[r.IntN(len(b))] = " \n-pc\xff"[r.IntN(6)]
		}
		if got, e := rack.ParseEvent(string(b)); e == api.OK {
			seen++
			if rack.FormatEvent(got) != string(b) {
				t.Fatalf("%q: %v", b, got)
			}
		} else {
			wantNone[api.PartEvent](t, "a wrong text")(got, e)
		}
	}
	wantSeen(t, "right texts", seen, 5000)
}
