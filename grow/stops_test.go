package grow_test

import (
	"math"
	"strings"
	"testing"

	"etalon/api"
	"etalon/grow"
)

// stop returns a stop.
func stop(layer, lo, hi int) api.GrowStop {
	return api.GrowStop{Layer: layer, Thick: span(lo, hi)}
}

// rightStops are stops at the ends of what is right, with their texts.
func rightStops() map[string]api.GrowStop {
	return map[string]api.GrowStop{
		"2 1190 1210":        stop(2, 1190, 1210),
		"0 0 0":              stop(0, 0, 0),
		"39 1000000 1000000": stop(39, 1000000, 1000000),
		"0 0 1000000":        stop(0, 0, 1000000),
		"7 10 10":            stop(7, 10, 10),
	}
}

// P8.7: FormatStop writes any stop.
func TestFormatStop(t *testing.T) {
	wrong := map[string]api.GrowStop{
		"-1 5 4":             stop(-1, 5, 4),
		"40 1000001 -9":      stop(40, 1000001, -9),
		"0 12345678 9":       stop(0, 12345678, 9),
		"99999999 0 0":       stop(99999999, 0, 0),
		"0 0 -1":             stop(0, 0, -1),
		"1000000000000 -1 0": stop(1000000000000, -1, 0),
		"-9223372036854775808 9223372036854775807 0": stop(math.MinInt, math.MaxInt, 0),
	}
	for _, stops := range []map[string]api.GrowStop{rightStops(), wrong} {
		for want, s := range stops {
			if got := grow.FormatStop(s); got != want {
				t.Errorf("%q; want %q", got, want)
			}
		}
	}
}

// P8.7: ParseStop.
func TestParseStop(t *testing.T) {
	for s, want := range rightStops() {
		got, e := grow.ParseStop(s)
		wantSame(t, s, got, e, want, api.OK)
	}
	for s, want := range map[string]api.Errno{
		"40 0 0": api.ErrRange, "-1 0 0": api.ErrRange, "9999999 0 0": api.ErrRange, "-9999999 0 0": api.ErrRange,
		"0 -1 0": api.ErrRange, "0 1000001 1000001": api.ErrRange, "0 0 1000001": api.ErrRange, "0 0 -1": api.ErrRange, "0 9999999 9999999": api.ErrRange,
		"0 1 0": api.ErrOrder, "39 1000000 999999": api.ErrOrder,
		// The sizes stand ahead of the order, and what is no text ahead of all.
		"40 1 0": api.ErrRange, "0 1000001 0": api.ErrRange, "0 0 -1000001": api.ErrRange, "0 5 -1": api.ErrRange,
		"40 01 0": api.ErrSyntax, "-1 1 00": api.ErrSyntax, "0 2 +1": api.ErrSyntax, "0 1 0 ": api.ErrSyntax,
		"": api.ErrSyntax, " ": api.ErrSyntax, "  ": api.ErrSyntax, "0": api.ErrSyntax, "0 0": api.ErrSyntax, "0 0 ": api.ErrSyntax, "0  0": api.ErrSyntax,
		"0 0 0 0": api.ErrSyntax, "0 0 0 ": api.ErrSyntax, " 0 0 0": api.ErrSyntax, "0  0 0": api.ErrSyntax, "0 0  0": api.ErrSyntax,
		"0 0 0\n": api.ErrSyntax, "0\t0 0": api.ErrSyntax, "0\n0\n0": api.ErrSyntax, "0,0,0": api.ErrSyntax, "0 0 0\x00": api.ErrSyntax,
		strings.Repeat("0 ", 30000): api.ErrSyntax, strings.Repeat("9", 60000): api.ErrSyntax,
	} {
		got, e := grow.ParseStop(s)
		wantSame(t, s[:min(len(s), 80)], got, e, api.GrowStop{}, want)
	}
	words := []string{
		"00", "01", "-01", "007", "-0", "+1", "+0", "--1", "-", "1-", "1.0", "1e3", "0x1", "1_0", "a", "٣", "", "10000000", "-10000000", "00000000", "0000001", "12345678", "99999999999999999999",
	}
	for _, word := range words {
		for _, s := range []string{word + " 5 6", "1 " + word + " 6", "1 5 " + word} {
			got, e := grow.ParseStop(s)
			wantSame(t, s, got, e, api.GrowStop{}, api.ErrSyntax)
		}
	}
}

// P8.12: ParseStop undoes FormatStop of right stops; of texts of others it tells the error.
func TestParseStopUndoes(t *testing.T) {
	r := draws(70)
	for range 30000 {
		s := stop(r.IntN(40), 0, 0)
		s.Thick = drawnRange(r, 0, 1000000)
		got, e := grow.ParseStop(grow.FormatStop(s))
		wantSame(t, "a stop", got, e, s, api.OK)
	}
	seen := 0
	for range 60000 {
		b := []byte(grow.FormatStop(stop(r.IntN(40), r.IntN(100), 100+r.IntN(900))))
		for range 1 + r.IntN(2) {
			b[r.IntN(len(b))] = " -0159\n\xff"[r.IntN(8)]
		}
		if got, e := grow.ParseStop(string(b)); e == api.OK {
			seen++
			if grow.FormatStop(got) != string(b) {
				t.Fatalf("%q: %v", b, got)
			}
		} else {
			wantNone[api.GrowStop](t, "a wrong text")(got, e)
		}
	}
	wantSeen(t, "right texts", seen, 5000)
}
