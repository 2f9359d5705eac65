package plant_test

import (
	"math/rand/v2"
	"slices"
	"strings"
	"testing"

	"etalon/api"
	"etalon/band"
	"etalon/glass"
	"etalon/grow"
	"etalon/plant"
)

// drawnWithin returns a range within another one, often of a single number.
func drawnWithin(r *rand.Rand, x api.Range) api.Range {
	a, b := x.Lo+r.IntN(x.Hi-x.Lo+1), x.Lo+r.IntN(x.Hi-x.Lo+1)
	if r.IntN(2) == 0 {
		b = a
	}
	return span(min(a, b), max(a, b))
}

// wantKept asks whether no demand of a certificate is broken at drawn pieces of its band, for drawn thicknesses within
// its ranges.
func wantKept(t *testing.T, r *rand.Rand, s api.PlantSetup, c api.PlantCertificate) {
	t.Helper()
	i := slices.IndexFunc(s.Products, func(x api.PlantProduct) bool { return x.Name == c.Product })
	for number, d := range s.Products[i].Demands {
		for range 6 {
			piece := api.BandPiece{Wave: drawnWithin(r, d.Wave), Sine: drawnWithin(r, d.Sine)}
			task := api.BandTask{Demands: s.Products[i].Demands, On: s.On}
			for j, layer := range c.Layers {
				g := must[int](t)(glass.Find(s.Glasses, layer.Name))
				told := must[[2]api.Range](t)(glass.Between(s.Glasses[g], piece.Wave))
				task.Layers = append(task.Layers, api.LayerBox{Index: told[0], Thick: drawnWithin(r, c.Thick[j]), Loss: told[1].Lo})
			}
			answer, e := band.AnswerAt(task, number, piece)
			if answer == api.AnswerNo || e != api.OK {
				t.Errorf("%v at %v, %v: %d, %d", c, piece, task.Layers, answer, e)
			}
		}
	}
}

// P10.9: a certificate is accepted, and its demands are kept for all thicknesses within its ranges. A part that is not
// certified has none, also if it was stripped.
func TestSureCertificates(t *testing.T) {
	r := draws(4)
	certificates := 0
	wantSure := func(s api.PlantSetup, log []api.PlantEntry) {
		state := must[api.PlantState](t)(plant.StateOf(s, log))
		for _, x := range state.Events {
			c, e := plant.CertificateOf(s, log, x.Part)
			if !slices.Contains(state.Certified, x.Part) {
				wantSame(t, "not certified", c, e, api.PlantCertificate{}, api.ErrMissing)
				continue
			}
			certificates++
			pieces, f := plant.CheckCertificate(s, c)
			wantErrno(t, "CertificateOf", e, api.OK)
			wantErrno(t, "CheckCertificate", f, api.OK)
			wantSeen(t, "pieces", pieces, len(c.Trees))
			wantKept(t, r, s, c)
			stripped := must[[]api.PlantEntry](t)(plant.Accept(s, log[:len(log):len(log)], by("ann", "strip "+x.Part)))
			c, e = plant.CertificateOf(s, stripped, x.Part)
			wantSame(t, "stripped", c, e, api.PlantCertificate{}, api.ErrMissing)
		}
	}
	wantSure(banded(), wideLog())
	for range 40 {
		// One entry is left for the stripping.
		wantSure(rich(), drawnLog(r, rich(), 59, func(book, api.PlantEntry, api.Errno) {}))
	}
	wantSeen(t, "certificates", certificates, 10)
}

// P10.5, P10.9: a certificate that is wrong at one thickness, layer or tree is not accepted, or its demands are kept all the
// same.
func TestWrongCertificates(t *testing.T) {
	r := draws(5)
	s := banded()
	right := must[api.PlantCertificate](t)(plant.CertificateOf(s, wideLog(), "p"))
	refused := 0
	for range 300 {
		c := copyOf(right)
		i := r.IntN(len(c.Thick))
		switch r.IntN(3) {
		case 0:
			c.Thick[i].Hi += r.IntN(200)
		case 1:
			c.Layers[i].Name = oneOf(r, "H", "L", "M")
		case 2:
			tree := c.Trees[r.IntN(2)]
			tree[r.IntN(len(tree))] = r.IntN(3)
		}
		if _, e := plant.CheckCertificate(s, c); e != api.OK {
			refused++
			continue
		}
		wantKept(t, r, s, c)
	}
	wantSeen(t, "refused certificates", refused, 100)
	wantSeen(t, "accepted certificates", 300-refused, 30)
}

// P10.11: in no state of a right log a rule is broken, and no layer grows while the shutter is off.
func TestInterlocks(t *testing.T) {
	r := draws(6)
	stops, refused := 0, 0
	for range 30 {
		s := rich()
		log := drawnLog(r, s, 60, func(b book, x api.PlantEntry, e api.Errno) {
			if e == api.ErrBreak {
				refused++
			}
		})
		for i := range len(log) + 1 {
			state := must[api.PlantState](t)(plant.StateOf(s, log[:i]))
			rule, e := grow.FirstBroken(s.Chamber, state.Devices)
			wantSame(t, "a broken rule", rule, e, 0, api.ErrNone)
			if i < len(log) && strings.HasPrefix(log[i].Text, "stop ") {
				stops++
				if !state.Devices[s.Shutter] {
					t.Errorf("%q behind %q", log[i], log[:i])
				}
			}
		}
	}
	wantSeen(t, "stops", stops, 50)
	wantSeen(t, "refused entries", refused, 20)
}

// P10.12: the beginning of a right log is right; a desk into which it is entered has this log, and its answers.
func TestReplayed(t *testing.T) {
	r := draws(7)
	for range 10 {
		s := rich()
		log := drawnLog(r, s, 40, func(book, api.PlantEntry, api.Errno) {})
		d, _ := plant.New(s)
		for i := range len(log) + 1 {
			wantLog(t, s, log[:i])
			wantSame(t, "the log of the desk", d.Log(), api.OK, log[:i], api.OK)
			for _, question := range []string{"devices", "batch b0", "batch b1", "part p0", "part w", "recipe r0 1", "recipe r0 2"} {
				want, errno := plant.Ask(s, log[:i], question)
				text, e := d.Ask(question)
				wantSame(t, question, text, e, want, errno)
			}
			if i < len(log) {
				wantErrno(t, log[i].Text, d.Enter(log[i]), api.OK)
			}
		}
		text := must[string](t)(plant.Journal(log))
		got, size, e := plant.Recover(text)
		wantSame(t, "the journal", got, e, log, api.OK)
		wantSame(t, "its bytes", size, e, len(text), api.OK)
	}
}
