package ball_test

import (
	"strings"
	"testing"

	"etalon/api"
	"etalon/ball"
)

// P1.7: Format.
func TestFormat(t *testing.T) {
	for _, x := range []struct {
		b    api.Ball
		want string
	}{
		{at(3, -4, 1), "3 -4 1"},
		{at(0, 0, 0), "0 0 0"},
		{api.Ball{Z: complex(minusZero, minusZero)}, "0 0 0"},
		{at(most, -most, most), "67108864 -67108864 67108864"},
	} {
		if s := ball.Format(x.b); s != x.want {
			t.Errorf("%v: %q; want %q", x.b, s, x.want)
		}
	}
	for _, x := range wrongBalls() {
		if s := ball.Format(x.b); s != "" {
			t.Errorf("%s: %q", x.name, s)
		}
	}
}

// P1.7: Parse.
func TestParse(t *testing.T) {
	for _, x := range []struct {
		s     string
		want  api.Ball
		errno api.Errno
	}{
		{"3 -4 1", at(3, -4, 1), api.OK},
		{"0 0 0", at(0, 0, 0), api.OK},
		{"-67108864 67108864 67108864", at(-most, most, most), api.OK},
		{"67108865 0 0", api.Ball{}, api.ErrRange},
		{"0 -67108865 0", api.Ball{}, api.ErrRange},
		{"0 0 -1", api.Ball{}, api.ErrRange},
		{"0 0 67108865", api.Ball{}, api.ErrRange},
		{"999999999 -999999999 999999999", api.Ball{}, api.ErrRange},
		{"999999999 0 x", api.Ball{}, api.ErrSyntax},
	} {
		b, e := ball.Parse(x.s)
		wantBall(t, x.s, b, e, x.want, x.errno)
	}
	for _, s := range []string{
		"", " ", "  ", "   ", "3", "3 4", "3 4 ", " 3 4", "3 4 1 ", " 3 4 1", "3 4 1 0", "3  4 1", "3  1",
		"3 -0 1", "-0 0 0", "0 0 -0", "+3 4 1", "03 4 1", "3 -04 1", "3 4 00", "- 4 1", "3 - 1", "--3 4 1",
		"a 1 1", "1 1 a", "3.0 4 1", "3e1 4 1", "0x3 4 1", "1_0 4 1", "3 4 1\n", "3\t4\t1", "3,4,1", "3 4\x00 1", "٣ 4 1",
		"1000000000 0 0", "0 -1000000000 0", "0 0 1000000000", "0000000001 0 0", "0 0 99999999999999999999",
		strings.Repeat("1 ", 1000), strings.Repeat("1", 1000) + " 0 0",
	} {
		b, e := ball.Parse(s)
		wantBall(t, s, b, e, api.Ball{}, api.ErrSyntax)
	}
}

// P1.11: Parse undoes Format.
func TestParseFormat(t *testing.T) {
	r := draws(30)
	for range 5000 {
		b := drawnBall(r)
		again, e := ball.Parse(ball.Format(b))
		wantBall(t, "again", again, e, b, api.OK)
	}
}
