package stack_test

import (
	"math"
	"slices"
	"testing"

	"etalon/api"
	"etalon/stack"
)

// widest is an ask at all ends of what is right.
func widest() api.StackAsk {
	b := api.LayerBox{Index: span(5000, 80000), Thick: span(0, 1000000), Loss: 80000}
	return api.StackAsk{
		Index: 80000, Sine: span(0, 9999), Polar: api.PolarP, Wave: span(1000, 200000),
		Layers: slices.Repeat([]api.LayerBox{b}, 40), On: api.Substrate{Index: 80000, Loss: 80000},
	}
}

// P3.3: CheckAsk.
func TestCheckAsk(t *testing.T) {
	least := api.StackAsk{Index: 5000, Wave: just(1000), On: api.Substrate{Index: 5000}}
	small := least
	small.Layers = []api.LayerBox{{Index: just(5000)}, {Index: just(5000)}}
	for _, a := range []api.StackAsk{widest(), least, small, sample(), quarter(), aslant(quarter(), 9999)} {
		i, e := stack.CheckAsk(a)
		wantSame(t, "a right one", i, e, 0, api.OK)
	}
	for _, x := range wrongAsks() {
		i, e := stack.CheckAsk(x.a)
		wantSame(t, x.name, i, e, x.layer, x.errno)
	}
	last := widest()
	last.Layers[39].Loss = 80001
	i, e := stack.CheckAsk(last)
	wantSame(t, "the last layer", i, e, 40, api.ErrRange)
}

// R1: errors of the ask stand ahead of those of other arguments, and beside an error nothing else.
func TestErrorsOfAsks(t *testing.T) {
	for _, x := range wrongAsks() {
		for _, number := range []int{math.MinInt, -1, 0, 1, 4, 61, math.MaxInt} {
			for _, f := range onesOfAsks(number) {
				if e, none := f.call(x.a); e != x.errno || !none {
					t.Errorf("%s of %s: %d, %v; want %d", f.name, x.name, e, none, x.errno)
				}
			}
		}
	}
}

// P3.4: the numbers of media and of layers.
func TestNumbersOfMedia(t *testing.T) {
	bare := straight(5000, 15000)
	for _, x := range []struct {
		name        string
		a           api.StackAsk
		first, last int
	}{
		{"NormalIndex", sample(), 0, 3},
		{"Admittance", sample(), 0, 3},
		{"PartsOfLayer", sample(), 1, 2},
		{"Factors", sample(), 1, 2},
		{"MatrixOf", sample(), 1, 2},
		{"NormalIndex", bare, 0, 1},
		{"Admittance", bare, 0, 1},
		{"PartsOfLayer", bare, 1, 0},
		{"Factors", bare, 1, 0},
		{"MatrixOf", bare, 1, 0},
	} {
		for _, number := range []int{math.MinInt, -1, 0, 1, 2, 3, 4, 40, math.MaxInt} {
			want := api.OK
			if number < x.first || number > x.last {
				want = api.ErrMissing
			}
			for _, f := range onesOfAsks(number) {
				if f.name != x.name {
					continue
				}
				if e, none := f.call(x.a); e != want || none != (want != api.OK) {
					t.Errorf("%s of %d: %d, %v; want %d", f.name, number, e, none, want)
				}
			}
		}
	}
	// No operation is asked for a medium that is not there.
	if _, e := stack.NormalIndex(widest(), 42); e != api.ErrMissing {
		t.Errorf("behind the last medium: %d", e)
	}
}

// P3.7: OtherSide.
func TestOtherSide(t *testing.T) {
	other := func(a api.StackAsk, on, loss int) api.StackAsk {
		a.On = api.Substrate{Index: on, Loss: loss}
		return a
	}
	sines := func(a api.StackAsk, lo, hi int) api.StackAsk {
		a.Sine = span(lo, hi)
		return a
	}
	first, second := sample().Layers[0], sample().Layers[1]
	turned := straight(5000, 10000, second, first)
	turned.Index, turned.Sine, turned.Polar, turned.Wave = 15000, span(2000, 2002), api.PolarP, span(5000, 5010)
	dense := straight(5000, 10000)
	dense.Index = 20000
	for _, x := range []struct {
		name  string
		a     api.StackAsk
		want  api.StackAsk
		errno api.Errno
	}{
		{"the example", quarter(), api.StackAsk{Index: 40000, Wave: just(4000), Layers: quarter().Layers, On: api.Substrate{Index: 10000}}, api.OK},
		{"the other example", other(sines(sample(), 3000, 3003), 15000, 0), turned, api.OK},
		{"a loss behind", sample(), api.StackAsk{}, api.ErrKind},
		{"a loss behind ahead of the sines", other(sines(dense, 7, 9999), 30000, 1), api.StackAsk{}, api.ErrKind},
		{"the first sine is not whole", other(sines(sample(), 3001, 3003), 15000, 0), api.StackAsk{}, api.ErrUnit},
		{"the last sine is not whole", other(sines(sample(), 3000, 3004), 15000, 0), api.StackAsk{}, api.ErrUnit},
		{"a sine that is not whole ahead of a great one", other(sines(dense, 1, 5000), 10001, 0), api.StackAsk{}, api.ErrUnit},
		{"a great sine", sines(dense, 4999, 5000), api.StackAsk{}, api.ErrRange},
		{"two great sines", sines(dense, 5001, 5002), api.StackAsk{}, api.ErrRange},
		{"the greatest sine", other(sines(dense, 0, 5555), 11111, 0), api.StackAsk{}, api.ErrUnit},
		{"the greatest whole sine", other(sines(dense, 1, 9999), 20000, 0), other(sines(dense, 1, 9999), 20000, 0), api.OK},
		{"a sine of 1", other(sines(dense, 5000, 5000), 10000, 0), api.StackAsk{}, api.ErrRange},
	} {
		got, e := stack.OtherSide(x.a)
		if !sameAsk(got, x.want) || e != x.errno {
			t.Errorf("%s: %v, %d; want %v, %d", x.name, got, e, x.want, x.errno)
		}
	}
}

// P3.9: OtherSide undoes OtherSide.
func TestOtherSideTwice(t *testing.T) {
	r, seen := draws(20), 0
	for range 3000 {
		a := drawnAsk(r)
		a.On = api.Substrate{Index: a.Index * (1 + r.IntN(3)) / (1 + r.IntN(2))}
		b, e := stack.OtherSide(a)
		if e != api.OK {
			continue
		}
		seen++
		if again, e := stack.OtherSide(b); !sameAsk(again, a) || e != api.OK {
			t.Fatalf("%v: %v: %v, %d", a, b, again, e)
		}
	}
	if seen < 300 {
		t.Errorf("only %d asks", seen)
	}
}
