package stack_test

import (
	"math"
	"math/rand/v2"
	"slices"
	"strings"
	"testing"

	"etalon/api"
	"etalon/stack"
)

// oddInts are ints at all kinds of ends.
func oddInts() []int {
	return []int{math.MinInt, math.MinInt + 1, -1, 0, 1, 2, 999, 4999, 5000, 9999, 10000, 80000, 200000, one, api.MaxPart, math.MaxInt - 1, math.MaxInt}
}

// oddAsk returns an ask of any ints.
func oddAsk(r *rand.Rand) api.StackAsk {
	l := oddInts()
	n := func() int { return l[r.IntN(len(l))] }
	a := drawnAsk(r)
	for range 1 + r.IntN(2) {
		switch r.IntN(9) {
		case 0:
			a.Index = n()
		case 1:
			a.Sine = span(n(), n())
		case 2:
			a.Polar = n()
		case 3:
			a.Wave = span(n(), n())
		case 4:
			a.On = api.Substrate{Index: n(), Loss: n()}
		case 5:
			a.Layers = make([]api.LayerBox, r.IntN(60))
		default:
			a.Layers = append(a.Layers, api.LayerBox{Index: span(n(), n()), Thick: span(n(), n()), Loss: n()})
		}
	}
	return a
}

// R2: no arguments make a function panic, and beside an error stands the zero value.
func TestNoPanic(t *testing.T) {
	r, ints := draws(70), oddInts()
	for range 5000 {
		a := oddAsk(r)
		for _, f := range onesOfAsks(ints[r.IntN(len(ints))]) {
			if e, none := f.call(a); e != api.OK && !none {
				t.Fatalf("%s of %+v: a result beside the error %d", f.name, a, e)
			}
		}
		var l []api.StackPart
		var layers []api.Layer
		n := func() int { return ints[r.IntN(len(ints))] }
		for range r.IntN(4) {
			l = append(l, api.StackPart{Layers: []api.StackLayer{film("a", n())}[:r.IntN(2)], Times: n(), Back: r.IntN(2) == 0})
			layers = append(layers, api.Layer{Index: n(), Loss: n(), Thick: n()})
		}
		_, wrong := stack.CheckParts(l)
		stack.FormatStack(l)
		unrolled, e := stack.Unrolled(l)
		turned, errno := stack.TurnedBack(l)
		if e != wrong || errno != wrong || wrong != api.OK && (unrolled != nil || turned != nil) {
			t.Fatalf("%v: %d, %d; want %d", l, e, errno, wrong)
		}
		if all, e := stack.Layered(l, []api.StackMaterial{{Name: "a", Index: n(), Loss: n()}}); e != api.OK && all != nil {
			t.Fatalf("%v: %v, %d", l, all, e)
		}
		if boxes, e := stack.Boxed(layers, n()); e != api.OK && boxes != nil {
			t.Fatalf("%v: %v, %d", layers, boxes, e)
		}
		x := api.StackSlab{Front: shares(span(n(), n()), span(0, 1), span(n(), n())), Inner: span(n(), n())}
		if s, e := stack.Slab(x); e != stack.CheckSlab(x) || e != api.OK && s != (api.StackShares{}) {
			t.Fatalf("%v: %v, %d", x, s, e)
		}
	}
}

// P3.1, R2: no text makes ParseStack panic; what it reads is written as the same text.
func TestParseAnything(t *testing.T) {
	r := draws(71)
	pieces := []string{"a", "b", ":", ":", "0", "5", "17", "1000000", ",", " ", "*", "*2", "~", "\n", "é", "-", "a:1", "b:2", "c:30", " ", ","}
	right := 0
	for range 40000 {
		var text strings.Builder
		for range r.IntN(9) {
			text.WriteString(pieces[r.IntN(len(pieces))])
		}
		s := text.String()
		l, e := stack.ParseStack(s)
		if e == api.OK {
			right++
			if again := stack.FormatStack(l); again != s {
				t.Fatalf("%q is read as %q", s, again)
			}
			if _, e := stack.CheckParts(l); e != api.OK {
				t.Fatalf("%q: %v, %d", s, l, e)
			}
		} else if l != nil {
			t.Fatalf("%q: %v, %d", s, l, e)
		}
	}
	wantSeen(t, "right texts", right, 1500)
}

// R3: no function writes into its arguments.
func TestArgumentsStay(t *testing.T) {
	r := draws(72)
	for range 300 {
		a, l := drawnAsk(r), drawnStack(r)
		layers, text := slices.Clone(a.Layers), stack.FormatStack(l)
		for _, f := range onesOfAsks(1) {
			f.call(a)
		}
		stack.CheckAsk(a)
		m := []api.StackMaterial{{Name: "longest-name", Index: 5000}, {Name: "c-9", Index: 6000}, {Name: "B", Index: 7000}, {Name: "a", Index: 8000}}
		stack.CheckParts(l)
		stack.Unrolled(l)
		stack.TurnedBack(l)
		all, e := stack.Layered(l, m)
		if e != api.OK {
			t.Fatalf("%s: %d", text, e)
		}
		before := slices.Clone(all)
		stack.Boxed(all, 5)
		if !slices.Equal(a.Layers, layers) || stack.FormatStack(l) != text || m[0].Name != "longest-name" || m[3].Index != 8000 || !slices.Equal(all, before) {
			t.Fatalf("%v, %s, %v", a, text, m)
		}
	}
}

// R3: results share no memory with arguments, nor the lists of a result with each other.
func TestResultsApart(t *testing.T) {
	text := "a:1,b:2*2 c:3~ d:4,e:5"
	l, _ := stack.ParseStack(text)
	turned, _ := stack.TurnedBack(l)
	want := stack.FormatStack(turned)
	for _, parts := range [][]api.StackPart{l, turned} {
		before := stack.FormatStack(parts)
		for i := range parts {
			_ = append(parts[i].Layers, film("x", 9))
		}
		if got := stack.FormatStack(parts); got != before {
			t.Errorf("after appending: %s; want %s", got, before)
		}
	}
	l[0].Layers[0].Thick, l[2].Times = 7, 9
	if got := stack.FormatStack(turned); got != want {
		t.Errorf("after writing: %s; want %s", got, want)
	}
	again, _ := stack.ParseStack(text)
	unrolled, _ := stack.Unrolled(again)
	unrolled[0].Thick = 8
	if got := stack.FormatStack(again); got != text {
		t.Errorf("after writing: %s; want %s", got, text)
	}
	a := quarter()
	other, _ := stack.OtherSide(a)
	other.Layers[0].Loss = 5
	if !sameAsk(a, quarter()) {
		t.Errorf("after writing: %v", a)
	}
}

// wantPlus reports a -0.
func wantPlus(t *testing.T, a api.StackAsk, balls ...api.Ball) {
	t.Helper()
	for _, b := range balls {
		for _, x := range [2]float64{real(b.Z), imag(b.Z)} {
			if x == 0 && math.Signbit(x) {
				t.Fatalf("%+v: -0 in %v", a, b)
			}
		}
	}
}

// R6: no result has a -0.
func TestNoMinusZero(t *testing.T) {
	r := draws(73)
	asks := oddAsks()
	for range 500 {
		asks = append(asks, drawnAsk(r))
	}
	for _, a := range asks {
		for n := range 4 {
			q, _ := stack.NormalIndex(a, n)
			y, _ := stack.Admittance(a, n)
			f, _ := stack.Factors(a, n)
			m, _ := stack.MatrixOf(a, n)
			paths, _ := stack.Paths(a, n)
			wantPlus(t, a, q, y, paths)
			wantPlus(t, a, f[:]...)
			wantPlus(t, a, m[:]...)
		}
		p, _ := stack.Product(a)
		b, _ := stack.FromBelow(a)
		reflected, _ := stack.Reflected(a)
		transmitted, _ := stack.Transmitted(a)
		wantPlus(t, a, p[:]...)
		wantPlus(t, a, b[0], b[1], reflected, transmitted)
	}
}

// R5: a nil list and an empty one are the same.
func TestEmptyLists(t *testing.T) {
	a, b := straight(5000, 20000), straight(5000, 20000)
	a.Layers, b.Layers = nil, []api.LayerBox{}
	for n := range 3 {
		for i, f := range onesOfAsks(n) {
			e, none := f.call(a)
			errno, empty := onesOfAsks(n)[i].call(b)
			if e != errno || none != empty {
				t.Errorf("%s: %d, %v; %d, %v", f.name, e, none, errno, empty)
			}
		}
	}
	first, e := stack.SharesOf(a)
	second, errno := stack.SharesOf(b)
	wantSame(t, "shares", second, errno, first, e)
}
