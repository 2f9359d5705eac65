package glass_test

import (
	"math"
	"slices"
	"strings"
	"testing"

	"etalon/api"
	"etalon/glass"
)

// oddGlasses are right and wrong materials with all kinds of numbers.
func oddGlasses() []api.Glass {
	var all []api.Glass
	for _, x := range wrongGlasses() {
		all = append(all, x.g)
	}
	ints := []int{math.MinInt, -1, 0, 1, 999, 5000, math.MaxInt}
	floats := []float32{float32(math.NaN()), float32(math.Inf(1)), math.MaxFloat32, float32(minusZero), 0.5, 15000}
	for _, kind := range []int{math.MinInt, 0, api.GlassTable, api.GlassCauchy, math.MaxInt} {
		for _, i := range ints {
			for _, j := range ints {
				all = append(all, api.Glass{Name: "a", Kind: kind, Cauchy: [2]int{i, j}}, api.Glass{Name: "a", Kind: kind, Waves: []int{i, j}})
			}
			for _, x := range floats {
				for _, y := range floats {
					all = append(all, api.Glass{Name: "a", Kind: kind, Waves: []int{i}, Index: []float32{x}, Loss: []float32{y}})
				}
			}
		}
	}
	return append(all, sample(), bent(), formula(15000, 100), table([3]int{5876, 15000, 0}))
}

// R2: no arguments make a function panic, and beside an error stands the zero value.
func TestNoPanic(t *testing.T) {
	check := func(name string, e api.Errno, none bool) {
		if e != api.OK && !none {
			t.Errorf("%s: a result beside the error %d", name, e)
		}
	}
	ints := []int{math.MinInt, math.MinInt + 1, -1, 0, 1, 4999, 5000, 10000, 80000, 200000, api.MaxPart, math.MaxInt - 1, math.MaxInt}
	for _, g := range oddGlasses() {
		for _, wave := range ints {
			for _, f := range onesOfGlasses(wave) {
				e, none := f.call(g)
				check(f.name, e, none)
			}
			for _, other := range ints {
				e, none := told(glass.Between(g, span(wave, other)))
				check("Between", e, none)
			}
		}
		e, none := told(glass.Abbe(g))
		check("Abbe", e, none)
		e, none = told(glass.Print([]api.Glass{g}))
		check("Print", e, none)
		e, none = told(glass.Find([]api.Glass{g, g}, "b"))
		check("Find", e, none)
	}
	for _, x := range ints {
		for _, y := range ints {
			for _, z := range ints {
				e, none := told(glass.MixedBetween(x, y, z))
				check("MixedBetween", e, none)
				e, none = told(glass.ShareFor(x, y, z))
				check("ShareFor", e, none)
			}
			spectrum, e := glass.Spectrum([]int{x, y})
			check("Spectrum", e, spectrum == nil)
		}
	}
}

// R2: no text makes Parse panic; beside an error stand no materials, and its mark is within the text.
func TestParseAnything(t *testing.T) {
	r := draws(40)
	pieces := []string{
		"glass", "row", "cauchy", "note", "a", "b", "0", "1000", "5000", "15000", "80001", "-0", "x", "\x00", "é", " ", "\t", "\n", "\n", "\r", " ", " ",
		"glass a\n", "glass b\n", "row 5000 15000 0\n", "row 6000 15000 1\n", "cauchy 15000 100\n",
	}
	right := 0
	for range 30000 {
		var text strings.Builder
		for range r.IntN(12) {
			text.WriteString(pieces[r.IntN(len(pieces))])
		}
		l, m, e := glass.Parse(text.String())
		if e == api.OK {
			right++
			again, errno := glass.Print(l)
			if errno != api.OK || m != mark(0, 0) {
				t.Fatalf("%q: %v, %v, %d", text.String(), l, m, errno)
			}
			wantParsed(t, again, l, mark(0, 0), api.OK)
			continue
		}
		lines := strings.Split(text.String(), "\n")
		if l != nil || m.Line < 1 || m.Line > len(lines) || m.Column < 1 || m.Column > len(lines[m.Line-1])+1 {
			t.Fatalf("%q: %v, %v, %d", text.String(), l, m, e)
		}
	}
	if right < 500 {
		t.Errorf("only %d right texts", right)
	}
}

// R3: no function writes into its arguments.
func TestArgumentsStay(t *testing.T) {
	g := called("g", bent())
	l := []api.Glass{sample(), g}
	kernel := []int{1, 2, 3, 4}
	spectrum := spectrumOf(t, kernel)
	spectrum[0].R = 7
	before := slices.Clone(spectrum)
	glass.CheckGlass(g)
	glass.CheckCatalogue(l)
	glass.Find(l, "g")
	for _, f := range onesOfGlasses(1003) {
		f.call(g)
	}
	glass.Between(g, span(1001, 2000))
	glass.Abbe(g)
	glass.Print(l)
	glass.Kernel(spectrum)
	glass.Causal(spectrum)
	glass.FirstAcausal(spectrum)
	glass.Causalized(spectrum)
	if !sameGlass(g, called("g", bent())) || !sameGlass(l[0], sample()) || !sameGlass(l[1], g) {
		t.Errorf("materials: %v, %v", g, l)
	}
	if !slices.Equal(kernel, []int{1, 2, 3, 4}) || !slices.Equal(spectrum, before) {
		t.Errorf("responses: %v, %v", kernel, spectrum)
	}
}

// R3: the lists of a result do not share memory with each other: appending to one changes no other one.
func TestResultsApart(t *testing.T) {
	text := "glass a\nrow 5000 15000 1\nglass b\nrow 5000 15000 2\nrow 6000 15000 3\nrow 7000 15000 4\n"
	l, _, e := glass.Parse(text)
	if e != api.OK || len(l) != 2 {
		t.Fatalf("%v, %d", l, e)
	}
	for i := range l {
		_ = append(l[i].Waves, 9)
		_ = append(l[i].Index, 9)
		_ = append(l[i].Loss, 9)
	}
	if printed(t, l) != text {
		t.Errorf("after appending: %q", printed(t, l))
	}
	l[0].Index[0], l[0].Loss[0] = 16000, 5
	again, _, _ := glass.Parse(text)
	if printed(t, again) != text {
		t.Errorf("after writing: %q", printed(t, again))
	}
	first, second := spectrumOf(t, []int{1, 2}), spectrumOf(t, []int{1, 2})
	first[0].R = 9
	if second[0].R != 0 || spectrumOf(t, []int{1, 2})[0].R != 0 {
		t.Errorf("spectra: %v", second)
	}
}

// R6: no result has a -0, whatever the arguments have.
func TestNoMinusZero(t *testing.T) {
	r := draws(41)
	parts := []float64{minusZero, 0, 1, -1, one, -one}
	for range 500 {
		spectrum := make([]api.Ball, 2<<r.IntN(4))
		plain := make([]api.Ball, len(spectrum))
		for m := range spectrum {
			spectrum[m] = api.Ball{Z: complex(parts[r.IntN(6)], parts[r.IntN(6)]), R: r.IntN(2)}
			plain[m] = at(int(real(spectrum[m].Z)), int(imag(spectrum[m].Z)), spectrum[m].R)
		}
		want, errno := glass.Kernel(plain)
		got, e := glass.Kernel(spectrum)
		wantBalls(t, "Kernel", got, e, want, errno)
		want, errno = glass.Causalized(plain)
		got, e = glass.Causalized(spectrum)
		wantBalls(t, "Causalized", got, e, want, errno)
		kernel := make([]int, len(spectrum))
		for i := range kernel {
			kernel[i] = r.IntN(3) - 1
		}
		want, errno = referenceSpectrum(kernel)
		got, e = glass.Spectrum(kernel)
		wantBalls(t, "Spectrum", got, e, want, errno)
	}
}

// R5: a nil list and an empty one are the same.
func TestEmptyLists(t *testing.T) {
	g := formula(15000, 5)
	empty := g
	empty.Waves, empty.Index, empty.Loss = []int{}, []float32{}, []float32{}
	first, e := glass.At(g, 5000)
	second, errno := glass.At(empty, 5000)
	wantSame(t, "At", second, errno, first, e)
	for _, l := range [][]api.Ball{nil, {}} {
		got, e := glass.Kernel(l)
		wantBalls(t, "Kernel", got, e, nil, api.ErrShape)
	}
	for _, l := range [][]int{nil, {}} {
		got, e := glass.Spectrum(l)
		wantBalls(t, "Spectrum", got, e, nil, api.ErrShape)
	}
}
