package stack_test

import (
	"math"
	"slices"
	"strings"
	"testing"

	"etalon/api"
	"etalon/stack"
)

// P3.1: CheckParts.
func TestCheckParts(t *testing.T) {
	for text, l := range rightStacks() {
		i, e := stack.CheckParts(l)
		wantSame(t, text, i, e, 0, api.OK)
	}
	for _, x := range wrongStacks() {
		i, e := stack.CheckParts(x.l)
		wantSame(t, x.name, i, e, x.part, x.errno)
	}
}

// P3.1: FormatStack of right stacks, and of others.
func TestFormatStack(t *testing.T) {
	for want, l := range rightStacks() {
		if got := stack.FormatStack(l); got != want {
			t.Errorf("%v: %q; want %q", l, got, want)
		}
	}
	for _, x := range []struct {
		l    []api.StackPart
		want string
	}{
		{[]api.StackPart{}, ""},
		{[]api.StackPart{{Times: 1}}, ""},
		{[]api.StackPart{{}}, "*0"},
		{[]api.StackPart{{}, {Times: 1}, {Times: 1, Back: true}}, "*0  ~"},
		{[]api.StackPart{{Times: -3, Back: true}}, "*-3~"},
		{[]api.StackPart{often(part(film("", -7), film("a b", 12345678)), 41)}, ":-7,a b:12345678*41"},
		{[]api.StackPart{part(film("~*", math.MinInt)), part(film("\n\xff", math.MaxInt))}, "~*:-9223372036854775808 \n\xff:9223372036854775807"},
		{slices.Repeat([]api.StackPart{part(film("a", 1))}, 22), strings.Repeat("a:1 ", 21) + "a:1"},
		{[]api.StackPart{often(part(films(3)...), math.MinInt)}, "a:0,a:1,a:2*-9223372036854775808"},
	} {
		if got := stack.FormatStack(x.l); got != x.want {
			t.Errorf("%v: %q; want %q", x.l, got, x.want)
		}
	}
}

// P3.1: ParseStack of right texts, and of those whose stack is wrong.
func TestParseStack(t *testing.T) {
	for text, want := range rightStacks() {
		got, e := stack.ParseStack(text)
		wantParts(t, text, got, e, want, api.OK)
	}
	for text, errno := range map[string]api.Errno{
		":0":                api.ErrName,
		"a:1,:0":            api.ErrName,
		"1:1":               api.ErrName,
		"abcdefghijklm:0":   api.ErrName,
		"a\t:0":             api.ErrName,
		"a\r:0":             api.ErrName,
		"\x00:0":            api.ErrName,
		"\xff:0":            api.ErrName,
		"é:0":               api.ErrName,
		"a_b:0":             api.ErrName,
		":9999999":          api.ErrName,
		"a:-1":              api.ErrRange,
		"a:1000001":         api.ErrRange,
		"a:9999999":         api.ErrRange,
		"a:-9999999":        api.ErrRange,
		"a:1,b:1000001":     api.ErrRange,
		"a:1*0":             api.ErrRange,
		"a:1*-1":            api.ErrRange,
		"a:1*41":            api.ErrRange,
		"a:1*9999999":       api.ErrRange,
		"a:1*40 a:1":        api.ErrLarge,
		"a:1,b:1*20 a:1 :1": api.ErrLarge,
		"a:1,b:1*21~":       api.ErrLarge,
		":1 a:1*0":          api.ErrName,
		"a:1*0 :1":          api.ErrRange,
		"a:1*40~ a:-1":      api.ErrRange,
		"a:1 b:2 c:3 " + strings.Repeat("a:1 ", 17) + "z:1": api.ErrLarge,
	} {
		got, e := stack.ParseStack(text)
		wantParts(t, text, got, e, nil, errno)
	}
}

// P3.1: texts that are none, among them all that are right ones but for a byte.
func TestParseStackSyntax(t *testing.T) {
	for _, text := range []string{
		" ", "  ", "\n", "~", "*", ",", ":", "*2", "*2~", "a", "a:", "a:1,", ",a:1", "a:1,,b:1", " a:1", "a:1 ", "a:1  b:1", "a:1\tb:1", "a:1\nb:1",
		"a:1, b:1", "a:1 ,b:1", "a: 1", "a :1", "a:1 *2", "a:1* 2", "a:1*2 ~", "a:1 ~", "a:1*", "a:1*~", "a:1*1", "a:1*1~", "a:1~*2", "a:1~~", "a:1*2~~", "a:1*2*2", "a:1*02", "a:1*+2", "a:1*-0",
		"a:01", "a:+1", "a:-0", "a:-", "a:00", "a:1.0", "a:1e3", "a:0x1", "a:1_0", "a:12345678", "a:-12345678", "a:10000000", "a:1*10000000", "a:99999999999999999999", "a:x", "a:é", "a:١",
		"a:1:2", "a::1", "a:1;b:1", "a~:1", "~a:1", "a*2:1", "a*:1", "a\n:1", "\n:1", "a:1\n", "a:1\x00", "a:1,b", "a,b:1", "a:1 b", "a:1~ b:1~ c~",
		":1 a", "a:9999999 a", "a:1*0 a", // no text ahead of a wrong stack
		strings.Repeat("a:1 ", 30),
	} {
		got, e := stack.ParseStack(text)
		wantParts(t, text, got, e, nil, api.ErrSyntax)
	}
	text := "Ab:500,L-2:80*2 H:5~"
	want, _ := stack.ParseStack(text)
	for i := range len(text) {
		if got, e := stack.ParseStack(text[:i]); e == api.OK && sameParts(got, want) || e != api.OK && got != nil {
			t.Errorf("%q: %v, %d", text[:i], got, e)
		}
		blank := text[:i] + " " + text[i:]
		got, e := stack.ParseStack(blank)
		wantParts(t, blank, got, e, nil, api.ErrSyntax)
		line := text[:i] + "\n" + text[i:]
		got, e = stack.ParseStack(line)
		wantParts(t, line, got, e, nil, api.ErrSyntax)
	}
}

// P3.1: texts of 2000 bytes and of one more.
func TestParseStackLong(t *testing.T) {
	fill := func(bytes int) string { return "a:1," + strings.Repeat("b", bytes-6) + ":1" }
	for text, errno := range map[string]api.Errno{
		fill(2000):                                 api.ErrName,
		fill(2001):                                 api.ErrLarge,
		strings.Repeat(" ", 2000):                  api.ErrSyntax,
		strings.Repeat(" ", 2001):                  api.ErrLarge,
		strings.Repeat("é", 1000):                  api.ErrSyntax,
		strings.Repeat("é", 1001):                  api.ErrLarge,
		strings.Repeat("a:1,", 499) + "a:1":        api.ErrLarge,
		strings.Repeat("a:1 ", 499) + "a:1":        api.ErrLarge,
		strings.Repeat("a:1 ", 499) + "a:1 ":       api.ErrSyntax,
		strings.Repeat("a:1,", 499) + "a:1,":       api.ErrSyntax,
		strings.Repeat("a:1,", 499) + ":999999999": api.ErrLarge,
	} {
		got, e := stack.ParseStack(text)
		wantParts(t, text, got, e, nil, errno)
	}
}

// P3.1: Unrolled and TurnedBack.
func TestUnrolled(t *testing.T) {
	h, l, x := film("H", 500), film("L", 800), film("x", 0)
	for _, s := range []struct {
		parts  []api.StackPart
		want   []api.StackLayer
		turned string
	}{
		{nil, nil, ""},
		{[]api.StackPart{}, nil, ""},
		{[]api.StackPart{part(x)}, []api.StackLayer{x}, "x:0~"},
		{[]api.StackPart{often(part(h, l), 2), back(part(h))}, []api.StackLayer{h, l, h, l, h}, "H:500 H:500,L:800*2~"},
		{[]api.StackPart{back(often(part(h, l, x), 2)), part(x, l)}, []api.StackLayer{x, l, h, x, l, h, x, l}, "x:0,L:800~ H:500,L:800,x:0*2"},
		{[]api.StackPart{often(part(x), 40)}, slices.Repeat([]api.StackLayer{x}, 40), "x:0*40~"},
	} {
		name := stack.FormatStack(s.parts)
		got, e := stack.Unrolled(s.parts)
		wantList(t, name, got, e, s.want, api.OK)
		turned, e := stack.TurnedBack(s.parts)
		if text := stack.FormatStack(turned); text != s.turned || e != api.OK {
			t.Errorf("%s: %q, %d; want %q", name, text, e, s.turned)
		}
	}
	for _, x := range wrongStacks() {
		got, e := stack.Unrolled(x.l)
		wantList(t, x.name, got, e, nil, x.errno)
		turned, e := stack.TurnedBack(x.l)
		wantParts(t, x.name, turned, e, nil, x.errno)
	}
}

// P3.12: the stack from the other end is unrolled from the last layer to the first one; turned twice it is itself;
// ParseStack undoes FormatStack.
func TestStacksOfOrder(t *testing.T) {
	r := draws(10)
	check := func(l []api.StackPart) {
		layers, e := stack.Unrolled(l)
		if e != api.OK {
			t.Fatalf("%v: %d", l, e)
		}
		turned, e := stack.TurnedBack(l)
		if e != api.OK {
			t.Fatalf("%v: %d", l, e)
		}
		other, e := stack.Unrolled(turned)
		slices.Reverse(layers)
		wantList(t, "turned", other, e, layers, api.OK)
		again, e := stack.TurnedBack(turned)
		wantParts(t, "turned twice", again, e, l, api.OK)
		text := stack.FormatStack(l)
		parsed, e := stack.ParseStack(text)
		wantParts(t, text, parsed, e, l, api.OK)
	}
	for range 3000 {
		check(drawnStack(r))
	}
	for _, l := range rightStacks() {
		check(l)
	}
}
