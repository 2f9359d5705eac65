package stack_test

import (
	"math"
	"math/cmplx"
	"math/rand/v2"
	"testing"

	"etalon/api"
	"etalon/stack"
)

// These tests find what light does by floats, from the fields at the surfaces, and ask whether it lies in the results.

// point is a single light and single layers.
type point struct {
	side    float64 // the index along the layers
	wave    float64
	polar   int
	indices []complex128 // of all media
	thick   []float64    // of all media; 0 around the layers
}

// within returns a number of a range: an end or any one, also between whole numbers.
func within(r *rand.Rand, s api.Range) float64 {
	switch r.IntN(4) {
	case 0:
		return float64(s.Lo)
	case 1:
		return float64(s.Hi)
	}
	return float64(s.Lo) + r.Float64()*float64(s.Hi-s.Lo)
}

// pointOf returns a point of an ask.
func pointOf(r *rand.Rand, a api.StackAsk) point {
	p := point{side: float64(a.Index) * within(r, a.Sine) / 1e8, wave: within(r, a.Wave), polar: a.Polar}
	add := func(b api.LayerBox) {
		p.indices = append(p.indices, complex(within(r, b.Index)/1e4, float64(b.Loss)/1e4))
		p.thick = append(p.thick, within(r, b.Thick))
	}
	add(box(a.Index, 0))
	for _, b := range a.Layers {
		add(b)
	}
	add(lossy(box(a.On.Index, 0), a.On.Loss))
	return p
}

// normal is the root whose light fades on its way.
func (p point) normal(medium int) complex128 {
	n := p.indices[medium]
	return cmplx.Sqrt(n*n - complex(p.side*p.side, 0))
}

func (p point) admittance(medium int) complex128 {
	q := p.normal(medium)
	if p.polar == api.PolarS {
		return q
	}
	return p.indices[medium] * p.indices[medium] / q
}

// phase is the angle by which a layer turns light, with what fades as its imaginary part.
func (p point) phase(medium int) complex128 {
	return p.normal(medium) * complex(2*math.Pi*p.thick[medium]/p.wave, 0)
}

// amplitudes returns what is reflected and transmitted. The fields behind the last layer are 1 and its admittance;
// a layer takes them to its front as sums of both waves in it.
func (p point) amplitudes() (r, t complex128) {
	last := len(p.indices) - 1
	electric, magnetic := complex(1, 0), p.admittance(last)
	for m := last - 1; m > 0; m-- {
		y, turn := p.admittance(m), cmplx.Exp(1i*p.phase(m))
		to, from := (electric+magnetic/y)/(2*turn), (electric-magnetic/y)/2*turn
		electric, magnetic = to+from, y*(to-from)
	}
	y := p.admittance(0)
	return (y*electric - magnetic) / (y*electric + magnetic), 2 * y / (y*electric + magnetic)
}

// shares returns what is reflected and transmitted of the light.
func (p point) shares() (reflected, transmitted float64) {
	r, t := p.amplitudes()
	reflected = real(r)*real(r) + imag(r)*imag(r)
	carried := real(p.admittance(len(p.indices)-1)) / real(p.admittance(0))
	return reflected, (real(t)*real(t) + imag(t)*imag(t)) * carried
}

// slack is by how many parts floats may be wrong.
const slack = 1e-3

func wantIn(t *testing.T, name string, a api.StackAsk, b api.Ball, e api.Errno, z complex128) bool {
	t.Helper()
	if e != api.OK || cmplx.IsNaN(z) || cmplx.IsInf(z) {
		return false
	}
	if cmplx.Abs(z*one-b.Z) > float64(b.R)+slack {
		t.Fatalf("%s of %+v: %v has not %v", name, a, b, z*one)
	}
	return true
}

func wantBetween(t *testing.T, name string, a api.StackAsk, s api.Range, x float64) {
	t.Helper()
	if x < float64(s.Lo)-slack || x > float64(s.Hi)+slack {
		t.Fatalf("%s of %+v: %v has not %v", name, a, s, x)
	}
}

// P2: true amplitudes and shares lie in the results, whichever way these are found; so do the numbers of media.
func TestTruth(t *testing.T) {
	r := draws(40)
	seen := map[string]int{}
	for range 6000 {
		a := drawnAsk(r)
		for range 4 {
			p := pointOf(r, a)
			count := func(name string, z complex128, b api.Ball, e api.Errno) {
				if wantIn(t, name, a, b, e, z) {
					seen[name]++
				}
			}
			for m := range p.indices {
				b, e := stack.NormalIndex(a, m)
				count("normal index", p.normal(m), b, e)
				b, e = stack.Admittance(a, m)
				count("admittance", p.admittance(m), b, e)
			}
			for m := 1; m < len(p.indices)-1; m++ {
				both, e := stack.Factors(a, m)
				count("factor", cmplx.Exp(1i*p.phase(m)), both[0], e)
				count("double factor", cmplx.Exp(2i*p.phase(m)), both[1], e)
				checkParts(t, a, p, m)
			}
			reflected, transmitted := p.amplitudes()
			b, e := stack.Reflected(a)
			count("reflected", reflected, b, e)
			b, e = stack.Transmitted(a)
			count("transmitted", transmitted, b, e)
			both, e := stack.FromBelow(a)
			count("reflected from below", reflected, both[0], e)
			count("transmitted from below", transmitted, both[1], e)
			b, e = stack.Paths(a, r.IntN(61))
			count("paths", reflected, b, e)
			if s, e := stack.SharesOf(a); e == api.OK {
				seen["shares"]++
				checkShares(t, a, p, s)
			}
		}
	}
	t.Log(seen)
	for _, name := range []string{
		"normal index", "admittance", "factor", "double factor", "reflected", "transmitted",
		"reflected from below", "transmitted from below", "paths", "shares",
	} {
		if seen[name] < 2000 {
			t.Errorf("only %d of %s", seen[name], name)
		}
	}
}

// checkParts asks whether the phase of a layer lies in its parts.
func checkParts(t *testing.T, a api.StackAsk, p point, layer int) {
	t.Helper()
	parts, e := stack.PartsOfLayer(a, layer)
	if e != api.OK {
		return
	}
	turns := p.phase(layer) / (2 * math.Pi) * api.TurnParts
	wantBetween(t, "turns", a, parts[0], real(turns))
	wantBetween(t, "fading", a, parts[1], imag(turns))
}

// checkShares asks whether the true shares lie in those of an ask.
func checkShares(t *testing.T, a api.StackAsk, p point, s api.StackShares) {
	t.Helper()
	reflected, transmitted := p.shares()
	if math.IsNaN(reflected) || math.IsNaN(transmitted) {
		return // the fields in front of thick layers with losses are too great for floats
	}
	wantBetween(t, "reflected share", a, s.Reflected, reflected*one)
	wantBetween(t, "transmitted share", a, s.Transmitted, transmitted*one)
	wantBetween(t, "absorbed share", a, s.Absorbed, (1-reflected-transmitted)*one)
}
