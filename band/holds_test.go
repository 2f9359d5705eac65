package band_test

import (
	"math"
	"math/cmplx"
	"math/rand/v2"
	"slices"
	"testing"

	"etalon/api"
	"etalon/band"
)

// P4.8: a tree of Answer is accepted, a refutation too, and no demand is both proved and refuted.
func TestAnswersAreAccepted(t *testing.T) {
	r := draws(60)
	proved, refuted, open := 0, 0, 0
	for range 1200 {
		task := drawnTask(r)
		answer, trees, point, e := band.Answer(task)
		wantError(t, "a right task", e, api.OK)
		switch answer {
		case api.AnswerYes:
			for i, tree := range trees {
				proved++
				pieces := 0
				for _, node := range tree {
					if node == api.CutNone {
						pieces++
					}
				}
				n, e := band.CheckTree(task, i, tree)
				wantSame(t, "a tree of Answer", n, e, pieces, api.OK)
				wantUnbroken(t, r, task, i)
				wantWeakerToo(t, r, task, i, tree)
			}
		case api.AnswerNo:
			refuted++
			wantError(t, "a refutation of Answer", band.CheckPoint(task, point), api.OK)
			for _, tree := range trial() {
				if _, e := band.CheckTree(task, point.Demand, tree); e == api.OK {
					t.Fatalf("%v is refuted at %v, and proved by %v", task, point, tree)
				}
			}
		default:
			open++
		}
	}
	wantSeen(t, "trees", proved, 500)
	wantSeen(t, "refutations", refuted, 100)
	wantSeen(t, "open tasks", open, 200)
}

// trial returns trees that demands may have.
func trial() [][]int {
	full := []int{0}
	for range 5 {
		full = slices.Concat([]int{1}, full, full)
	}
	return [][]int{{0}, {1, 0, 0}, {2, 0, 0}, {1, 1, 0, 0, 1, 0, 0}, {1, 2, 0, 0, 2, 0, 0}, full}
}

// wantUnbroken reports a piece, or a point, of the band on which a proved demand is broken.
func wantUnbroken(t *testing.T, r *rand.Rand, task api.BandTask, demand int) {
	t.Helper()
	d := task.Demands[demand]
	for range 5 {
		x := piece(drawnWithin(r, d.Wave), drawnWithin(r, d.Sine))
		if a, e := band.AnswerAt(task, demand, x); a == api.AnswerNo || e != api.OK {
			t.Fatalf("%v is proved, but broken on %v: %d, %d", task, x, a, e)
		}
		p := api.BandPoint{Demand: demand, Wave: x.Wave.Lo, Sine: x.Sine.Hi}
		if e := band.CheckPoint(task, p); e != api.ErrProof {
			t.Fatalf("%v is proved, but refuted at %v: %d", task, p, e)
		}
	}
}

// wantWeakerToo reports a tree that does not prove a weaker demand.
func wantWeakerToo(t *testing.T, r *rand.Rand, task api.BandTask, demand int, tree []int) {
	t.Helper()
	task.Demands = slices.Clone(task.Demands)
	d := &task.Demands[demand]
	d.Least, d.Most = r.IntN(d.Least+1), drawnBetween(r, d.Most, api.ShareOne)
	if _, e := band.CheckTree(task, demand, tree); e != api.OK {
		t.Fatalf("%v: the tree %v: %d", task, tree, e)
	}
}

// ray is light in a single stack: all of it is exact but for the rounding of floats.
type ray struct {
	polar             int
	front, side, wave float64
}

// in returns the normal index of a medium, and its admittance.
func (l ray) in(index complex128) (normal, admittance complex128) {
	normal = cmplx.Sqrt(index*index - complex(l.side*l.side, 0))
	if imag(normal) < 0 {
		normal = -normal
	}
	if l.polar == api.PolarP {
		return normal, index * index / normal
	}
	return normal, normal
}

// film is a single layer with its complex index.
type film struct {
	index complex128
	thick float64
}

// shares returns what is reflected, transmitted and absorbed, by the characteristic matrices.
func (l ray) shares(films []film, on complex128) [3]float64 {
	_, y0 := l.in(complex(l.front, 0))
	_, ys := l.in(on)
	b, c := complex128(1), ys
	for _, f := range slices.Backward(films) {
		q, y := l.in(f.index)
		turn := q * complex(2*math.Pi*f.thick/l.wave, 0)
		cosine, sine := cmplx.Cos(turn), -1i*cmplx.Sin(turn)
		b, c = cosine*b+sine/y*c, sine*y*b+cosine*c
	}
	all := y0*b + c
	reflected := cmplx.Abs((y0*b - c) / all)
	transmitted := cmplx.Abs(2 * y0 / all)
	s := [3]float64{reflected * reflected, real(ys) / real(y0) * transmitted * transmitted}
	s[2] = 1 - s[0] - s[1]
	return s
}

// drawnFloat returns a number of a range, which need not be whole.
func drawnFloat(r *rand.Rand, x api.Range) float64 {
	switch r.IntN(6) {
	case 0:
		return float64(x.Lo)
	case 1:
		return float64(x.Hi)
	}
	return float64(x.Lo) + r.Float64()*float64(x.Hi-x.Lo)
}

// trueShare returns the share of a demand, of one stack of a task's boxes, at one wavelength and sine of a piece.
func trueShare(r *rand.Rand, task api.BandTask, d api.BandDemand, x api.BandPiece) float64 {
	index := float64(d.Index) / api.IndexOne
	l := ray{d.Polar, index, index * drawnFloat(r, x.Sine) / api.IndexOne, drawnFloat(r, x.Wave)}
	var films []film
	for _, b := range task.Layers {
		films = append(films, film{complex(drawnFloat(r, b.Index)/api.IndexOne, float64(b.Loss)/api.IndexOne), drawnFloat(r, b.Thick)})
	}
	on := complex(float64(task.On.Index)/api.IndexOne, float64(task.On.Loss)/api.IndexOne)
	return l.shares(films, on)[d.Share]
}

// P2, P4.8: a demand that is proved holds on the whole band, also between whole wavelengths, for all layers of the
// boxes; one that is refuted is broken at its point for all of them.
func TestAnswersAreTrue(t *testing.T) {
	const slip = 1e-9
	r := draws(61)
	proved, refuted := 0, 0
	for range 1500 {
		task := drawnTask(r)
		answer, _, point, _ := band.Answer(task)
		switch answer {
		case api.AnswerYes:
			proved++
			for _, d := range task.Demands {
				least, most := float64(d.Least)/api.ShareOne-slip, float64(d.Most)/api.ShareOne+slip
				for range 20 {
					if s := trueShare(r, task, d, piece(d.Wave, d.Sine)); s < least || s > most {
						t.Fatalf("%v of %v is proved, but %v", d, task, s)
					}
				}
			}
		case api.AnswerNo:
			refuted++
			d := task.Demands[point.Demand]
			least, most := float64(d.Least)/api.ShareOne+slip, float64(d.Most)/api.ShareOne-slip
			for range 20 {
				if s := trueShare(r, task, d, piece(just(point.Wave), just(point.Sine))); s >= least && s <= most {
					t.Fatalf("%v of %v is refuted at %v, but %v", d, task, point, s)
				}
			}
		}
	}
	wantSeen(t, "proved", proved, 300)
	wantSeen(t, "refuted", refuted, 150)
}

// P4.4: the ends of Over have all true shares, and with more cuts they are no less sure.
func TestOverIsTrue(t *testing.T) {
	const slip = 1e-9
	r, seen := draws(62), 0
	for range 800 {
		task := drawnTask(r)
		for i, d := range task.Demands {
			s, e := band.Over(task, i, r.IntN(6))
			if e != api.OK {
				continue
			}
			seen++
			for range 20 {
				if share := trueShare(r, task, d, piece(d.Wave, d.Sine)) * api.One; share < float64(s.Lo)-slip*api.One || share > float64(s.Hi)+slip*api.One {
					t.Fatalf("%v of %v: %v is not in %v", d, task, share, s)
				}
			}
		}
	}
	wantSeen(t, "shares", seen, 500)
}

// P4.9: the matrix of a group is that of its angles and indices.
func TestMatricesAreTrue(t *testing.T) {
	r, seen := draws(63), 0
	for range 5000 {
		l := drawnGroup(r)
		m, e := band.MatrixOf(l)
		if e != api.OK {
			continue
		}
		seen++
		want := [4]complex128{1, 0, 0, 1}
		for _, p := range l {
			angle := math.Pi
			if !p.Open {
				angle = 2 * math.Atan(float64(p.Half.Num)/float64(p.Half.Den))
			}
			n := complex(float64(p.Index.Num)/float64(p.Index.Den), 0)
			cosine, sine := complex(math.Cos(angle), 0), complex(0, math.Sin(angle))
			want = [4]complex128{
				want[0]*cosine + want[1]*sine*n, want[0]*sine/n + want[1]*cosine,
				want[2]*cosine + want[3]*sine*n, want[2]*sine/n + want[3]*cosine,
			}
		}
		for i, unit := range [4]complex128{1, 1i, 1i, 1} {
			got := complex(float64(m[i].Num)/float64(m[i].Den), 0) * unit
			if cmplx.Abs(got-want[i]) > 1e-9*(1+cmplx.Abs(want[i])) {
				t.Fatalf("%v: %v; want %v", l, m, want)
			}
		}
	}
	wantSeen(t, "groups", seen, 2000)
}
