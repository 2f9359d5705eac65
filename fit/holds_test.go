package fit_test

import (
	"math"
	"math/cmplx"
	"math/rand/v2"
	"slices"
	"testing"

	"etalon/api"
	"etalon/fit"
)

// medium is a medium of a true sample: its complex index and its thickness, which need not be whole numbers.
type medium struct {
	n     complex128
	thick float64
}

// anyOf returns a number of a range: an end or any one, also between whole numbers.
func anyOf(r *rand.Rand, s api.Range) float64 {
	switch r.IntN(4) {
	case 0:
		return float64(s.Lo)
	case 1:
		return float64(s.Hi)
	}
	return float64(s.Lo) + r.Float64()*float64(s.Hi-s.Lo)
}

// drawnSample returns the media of a true sample in boxes, from the one in front on.
func drawnSample(r *rand.Rand, q api.FitSetting, l []api.LayerBox, on api.Substrate) []medium {
	media := []medium{{n: complex(float64(q.At.Index)/1e4, 0)}}
	for _, b := range l {
		media = append(media, medium{complex(anyOf(r, b.Index)/1e4, float64(b.Loss)/1e4), anyOf(r, b.Thick)})
	}
	return append(media, medium{n: complex(float64(on.Index)/1e4, float64(on.Loss)/1e4)})
}

// usual returns the usual reflected amplitudes of a sample, across the plane of incidence and in it: those of the
// surfaces, from the last one to the first one.
func usual(q api.FitSetting, media []medium) (rs, rp complex128) {
	side := complex(float64(q.At.Index)*float64(q.At.Sine)/1e8, 0)
	normal := func(m medium) complex128 { return cmplx.Sqrt(m.n*m.n - side*side) }
	for j := len(media) - 2; j >= 0; j-- {
		a, b := media[j], media[j+1]
		qa, qb := normal(a), normal(b)
		turned := cmplx.Exp(complex(0, 4*math.Pi*b.thick/float64(q.Wave)) * qb)
		s := (qa - qb) / (qa + qb)
		p := (b.n*b.n*qa - a.n*a.n*qb) / (b.n*b.n*qa + a.n*a.n*qb)
		rs = (s + rs*turned) / (1 + s*rs*turned)
		rp = (p + rp*turned) / (1 + p*rp*turned)
	}
	return rs, rp
}

// truth returns cos 2 psi, sin 2 psi cos delta and sin 2 psi sin delta of a sample.
func truth(q api.FitSetting, media []medium) [3]float64 {
	rs, rp := usual(q, media)
	s, p := real(rs)*real(rs)+imag(rs)*imag(rs), real(rp)*real(rp)+imag(rp)*imag(rp)
	product := rp * cmplx.Conj(rs)
	return [3]float64{(s - p) / (s + p), 2 * real(product) / (s + p), 2 * imag(product) / (s + p)}
}

// P2, P7.2: what is truly read of samples in boxes lies in what would be read.
func TestTruth(t *testing.T) {
	const slack = 1e-3
	r := draws(80)
	seen, narrow := 0, 0
	for range 15000 {
		q, l, on := drawnSetting(r), drawnBoxes(r), drawnSubstrate(r)
		if r.IntN(3) == 0 {
			l = boxesOf(drawnLayers(r, l))
		}
		told, e := fit.Predicted(q, l, on)
		if e != api.OK {
			continue
		}
		for range 4 {
			sample := drawnSample(r, q, l, on)
			for i, x := range truth(q, sample) {
				if math.IsNaN(x) {
					continue // fields are too great for floats
				}
				if x*one < float64(told[i].Lo)-slack || x*one > float64(told[i].Hi)+slack {
					t.Fatalf("%v of %v in %v on %v: %v has not %v", q, sample, l, on, told, x*one)
				}
				seen++
				if told[i].Hi-told[i].Lo < 10000 {
					narrow++
				}
			}
		}
	}
	t.Log(seen, narrow)
	wantSeen(t, "numbers", seen, 20000)
	wantSeen(t, "numbers that are told well", narrow, 5000)
}

// anyTree returns an accepted tree of a task, with cuts and leaves as they come: true leaves are refuted by any reading
// that does, or kept although one does.
func anyTree(r *rand.Rand, x api.FitTask, left int) []int {
	var numbers []int
	for i, q := range x.Readings {
		if bookRefutes(q, x.Boxes, x.On) {
			numbers = append(numbers, -2-i)
		}
	}
	if len(numbers) > 0 && r.IntN(4) > 0 {
		return []int{numbers[r.IntN(len(numbers))]}
	}
	numbers = nil
	for d, width := range bookRanges(x.Boxes) {
		if width.Lo < width.Hi {
			numbers = append(numbers, d)
		}
	}
	if left == 0 || len(numbers) == 0 || r.IntN(6) == 0 {
		return []int{-1}
	}
	d := numbers[r.IntN(len(numbers))]
	a, b := x, x
	a.Boxes, b.Boxes = bookHalves(x.Boxes, d)
	return slices.Concat([]int{d}, anyTree(r, a, left-1), anyTree(r, b, left-1))
}

// P7.8: no true sample is lost, of whatever tree that is accepted.
func TestNothingLost(t *testing.T) {
	r := draws(81)
	var refuted, deep int
	for i := range 500 {
		x, depth, layers := drawnSearch(30000 + i)
		trees := [][]int{must[[]int](t)(fit.Search(x, depth)), anyTree(r, x, 6)}
		for _, tree := range trees {
			at := must[int](t)(fit.Where(x, tree, layers))
			if tree[at] != -1 {
				t.Fatalf("%v of %v: %v is in the leaf %d of %v", layers, x, x.Readings, at, tree)
			}
			if at > 0 {
				deep++
			}
			refuted += leavesOf(tree)[1]
		}
	}
	t.Log(refuted, deep)
	wantSeen(t, "refuted leaves", refuted, 1000)
	wantSeen(t, "samples in parts", deep, 300)
}

// P7.9: layers in the boxes lie in just one leaf, which Where tells, on whichever side of the cuts.
func TestCover(t *testing.T) {
	r := draws(82)
	for i := range 400 {
		x, _, _ := drawnSearch(40000 + i)
		tree := anyTree(r, x, 6)
		leaves, _ := bookLeaves(x, tree, 0)
		for range 20 {
			layers := drawnLayers(r, x.Boxes)
			if r.IntN(2) == 0 {
				// At an end of a leaf, next to a cut.
				layers = nil
				for _, b := range leaves[r.IntN(len(leaves))].boxes {
					ends := [2][2]int{{b.Index.Lo, b.Index.Hi}, {b.Thick.Lo, b.Thick.Hi}}
					layers = append(layers, api.Layer{Index: ends[0][r.IntN(2)], Loss: b.Loss, Thick: ends[1][r.IntN(2)]})
				}
			}
			var in []int
			for _, l := range leaves {
				if has, e := fit.Has(l.boxes, layers); has && e == api.OK {
					in = append(in, l.place)
				}
			}
			at, e := fit.Where(x, tree, layers)
			wantSame(t, "the leaves", in, e, []int{at}, api.OK)
		}
		checkHull(t, x, tree)
	}
}

// checkHull asks whether kept boxes lie in their hull, which lies in the boxes of the task and is the least one.
func checkHull(t *testing.T, x api.FitTask, tree []int) {
	t.Helper()
	kept := must[[][]api.LayerBox](t)(fit.Kept(x, tree))
	if len(kept) == 0 {
		return
	}
	hull := must[[]api.LayerBox](t)(fit.HullOf(kept))
	reached := make([][2]bool, 2*len(hull))
	for _, l := range kept {
		for d, r := range bookRanges(l) {
			all := bookRanges(hull)[d]
			if !inside(r, all) || !inside(all, bookRanges(x.Boxes)[d]) {
				t.Fatalf("%v: %v, %v", x.Boxes, l, hull)
			}
			reached[d][0] = reached[d][0] || r.Lo == all.Lo
			reached[d][1] = reached[d][1] || r.Hi == all.Hi
		}
	}
	if slices.ContainsFunc(reached, func(ends [2]bool) bool { return !ends[0] || !ends[1] }) {
		t.Fatalf("%v is not the least hull of %v", hull, kept)
	}
}

// P7.9: what would be read of boxes meets what would be read of boxes within them.
func TestBoxesWithin(t *testing.T) {
	r := draws(83)
	seen := 0
	for range 15000 {
		q, l, on := drawnSetting(r), drawnBoxes(r), drawnSubstrate(r)
		narrow := slices.Clone(l)
		for i, b := range l {
			narrow[i].Index = drawnRange(r, b.Index.Lo, b.Index.Hi, b.Index.Hi-b.Index.Lo)
			narrow[i].Thick = drawnRange(r, b.Thick.Lo, b.Thick.Hi, b.Thick.Hi-b.Thick.Lo)
		}
		a, e := fit.Predicted(q, l, on)
		b, f := fit.Predicted(q, narrow, on)
		if e != api.OK || f != api.OK {
			continue
		}
		seen++
		for i := range 3 {
			if apart(a[i], b[i]) {
				t.Fatalf("%v on %v: %v of %v, %v of %v", q, on, a, l, b, narrow)
			}
		}
	}
	wantSeen(t, "boxes", seen, 5000)
}

// P7.10: boxes that a setting tells apart have no layers in common. (Boxes with layers in common are never told apart.)
func TestToldApart(t *testing.T) {
	r := draws(84)
	var apart, meeting int
	for range 6000 {
		pair, on := [2][]api.LayerBox{boxesOf(drawnLayers(r, drawnBoxes(r)))}, drawnSubstrate(r)
		pair[1] = slices.Clone(pair[0])
		for i, b := range pair[1] {
			pair[1][i].Index = drawnRange(r, b.Index.Lo-r.IntN(20), b.Index.Hi+r.IntN(20), 20)
			pair[1][i].Thick = drawnRange(r, max(0, b.Thick.Lo-r.IntN(100)*r.IntN(2)), b.Thick.Hi+r.IntN(5), 5)
		}
		both := true
		for d, x := range bookRanges(pair[0]) {
			y := bookRanges(pair[1])[d]
			both = both && x.Lo <= y.Hi && y.Lo <= x.Hi
		}
		answer := must[int](t)(fit.Tells(drawnSetting(r), pair, on))
		if both {
			meeting++
		}
		if answer == api.AnswerYes {
			apart++
			if both {
				t.Fatalf("%v on %v are told apart", pair, on)
			}
		}
	}
	t.Log(apart, meeting)
	wantSeen(t, "boxes in common", meeting, 300)
	wantSeen(t, "boxes told apart", apart, 300)
}
