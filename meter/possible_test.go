package meter_test

import (
	"slices"
	"testing"

	"etalon/api"
	"etalon/meter"
)

// right is a reading of the chapter's examples.
func right() api.Reading { return reading(span(-10, 10), span(0, 5), span(-5, 0)) }

// P6.5: DegreeOf and Possible.
func TestDegreeAndPossible(t *testing.T) {
	wantDefects(t, "DegreeOf", right, readingDefects(), errorOf(t, meter.DegreeOf))
	wantDefects(t, "Possible", right, readingDefects(), errorOf(t, meter.Possible))
	const all = one
	for _, x := range []struct {
		n, c, s, want api.Range
		answer        int
	}{
		{single(-524288), single(0), single(0), single(262144), api.AnswerYes},
		{single(0), single(0), single(0), single(0), api.AnswerYes},
		{single(1), single(0), single(0), span(0, 1), api.AnswerYes},
		{single(all), single(0), single(0), single(all), api.AnswerYes},
		{single(0), single(0), single(-all), single(all), api.AnswerYes},
		{single(all), single(0), single(1), span(all, all+1), api.AnswerNo},
		{single(-all), single(0), span(0, 1), span(all, all+1), api.AnswerMaybe},
		{single(all), span(-1, 1), single(0), span(all, all+1), api.AnswerMaybe},
		{single(all), span(-2, -1), single(0), span(all, all+1), api.AnswerNo},
		{span(-all, all), span(-all, all), span(-all, all), span(0, 3*all), api.AnswerMaybe},
		{single(all), single(-all), single(all), single(3 * all), api.AnswerNo},
		{span(1024, 2048), span(-4096, -2048), span(-1024, 512), span(5, 21), api.AnswerYes},
		{span(-3, 2), span(-2, 3), span(-3, -2), span(0, 1), api.AnswerYes},
		{span(0, 1024), span(-1024, 0), single(0), span(0, 2), api.AnswerYes},
		{single(629146), single(838861), single(0), span(all, all+1), api.AnswerNo},
		{single(629145), single(838861), single(0), span(all-1, all), api.AnswerYes},
		{single(629145), single(838860), single(0), span(all-2, all-1), api.AnswerYes},
		{single(1048575), single(1448), single(0), span(all-1, all), api.AnswerYes},
		{single(1048575), single(1449), single(0), span(all, all+1), api.AnswerNo},
	} {
		r := reading(x.n, x.c, x.s)
		d, e := meter.DegreeOf(r)
		wantSame(t, "degree", d, e, x.want, api.OK)
		answer, e := meter.Possible(r)
		wantSame(t, "possible", answer, e, x.answer, api.OK)
	}
	r := draws(40)
	count := map[int]int{}
	for range 20000 {
		x := drawnReading(r)
		if r.IntN(2) == 0 {
			// Narrow ranges of any places make all answers.
			for _, part := range []*api.Range{&x.N, &x.C, &x.S} {
				part.Lo = drawn(r, one)
				part.Hi = min(part.Lo+drawnSize(r, one), one)
			}
		}
		least, greatest := bookDegree(x)
		d, e := meter.DegreeOf(x)
		wantSame(t, "degree", d, e, span(floor(times(least, rat(one))), ceil(times(greatest, rat(one)))), api.OK)
		answer, e := meter.Possible(x)
		wantSame(t, "possible", answer, e, bookPossible(x), api.OK)
		count[answer]++
	}
	if count[api.AnswerNo] < 200 || count[api.AnswerMaybe] < 1000 || count[api.AnswerYes] < 1000 {
		t.Errorf("%v", count)
	}
}

// P6.5: PsiOf.
func TestPsiOf(t *testing.T) {
	wantDefects(t, "PsiOf", right, readingDefects(), errorOf(t, meter.PsiOf))
	u := bookCosines()
	for _, x := range []struct{ n, want api.Range }{
		{single(-524288), span(682, 683)},
		{single(one), span(0, 0)},
		{single(-one), span(1024, 1024)},
		{single(0), span(512, 512)},
		{span(-one, one), span(0, 1024)},
		{span(-1, 1), span(511, 513)},
		{span(one-1, one), span(0, 1)},
		{single(one - 1), span(0, 1)},
		{single(one - 3), span(0, 1)},
		{single(1 - one), span(1023, 1024)},
		{span(0, one), span(0, 512)},
		{span(-one, 0), span(512, 1024)},
		{single(741455), span(255, 257)},
		{single(u[256].Lo), span(256, 257)},
		{single(u[256].Hi), span(255, 256)},
		{single(u[256].Lo + 1), span(255, 257)},
		{single(u[256].Lo - 1), span(256, 257)},
		{single(u[256].Hi + 1), span(255, 256)},
		{u[256], span(255, 257)},
	} {
		got, e := meter.PsiOf(reading(x.n, span(-one, one), single(7)))
		wantSame(t, "psi", got, e, x.want, api.OK)
	}
	r := draws(41)
	for i := range 3000 {
		n := drawnRange(r, one)
		if i < 1025 {
			// Near each cosine.
			n = span(u[i].Lo+r.IntN(8)-4, u[i].Hi+r.IntN(8)-4)
			n = span(max(-one, min(n.Lo, n.Hi, one)), min(one, max(n.Lo, n.Hi, -one)))
		}
		got, e := meter.PsiOf(reading(n, single(0), single(0)))
		wantSame(t, "psi", got, e, bookPsi(u, n), api.OK)
	}
}

// P6.6: Averaged.
func TestAveraged(t *testing.T) {
	other := right()
	other.Name, other.N = "other", span(5, 20)
	for _, x := range []struct {
		name   string
		l      []api.Reading
		want   api.Reading
		number int
		errno  api.Errno
	}{
		{"none", nil, api.Reading{}, 0, api.ErrShape},
		{"an empty list", []api.Reading{}, api.Reading{}, 0, api.ErrShape},
		{"one", []api.Reading{right()}, right(), 0, api.OK},
		{"twice the same", []api.Reading{right(), right()}, right(), 0, api.OK},
		{"two", []api.Reading{right(), other}, reading(span(5, 10), span(0, 5), span(-5, 0)), 0, api.OK},
		{"20", slices.Repeat([]api.Reading{right()}, 20), right(), 0, api.OK},
		{"21", slices.Repeat([]api.Reading{right()}, 21), api.Reading{}, 0, api.ErrLarge},
		{"21 wrong ones", make([]api.Reading, 21), api.Reading{}, 0, api.ErrLarge},
		{"a wrong one alone", []api.Reading{{}}, api.Reading{}, 0, api.ErrName},
	} {
		got, n, e := meter.Averaged(x.l)
		wantSame(t, x.name, got, e, x.want, x.errno)
		if n != x.number {
			t.Errorf("%s: the number %d; want %d", x.name, n, x.number)
		}
	}
	named := must[api.Reading](t)(noNumber(meter.Averaged([]api.Reading{other, right()})))
	if named.Name != "other" {
		t.Errorf("the name %s", named.Name)
	}
	unlike := func(name string, do func(r *api.Reading), errno api.Errno) defect[api.Reading] {
		return defect[api.Reading]{name, do, errno, 0}
	}
	defects := append(readingDefects(),
		unlike("another Wave", func(r *api.Reading) { r.Wave++ }, api.ErrUnit),
		unlike("another Index", func(r *api.Reading) { r.At.Index++ }, api.ErrUnit),
		unlike("another Sine", func(r *api.Reading) { r.At.Sine-- }, api.ErrUnit),
		unlike("N above", func(r *api.Reading) { r.N = span(11, 20) }, api.ErrClash),
		unlike("N below", func(r *api.Reading) { r.N = span(-20, -11) }, api.ErrClash),
		unlike("C above", func(r *api.Reading) { r.C = single(6) }, api.ErrClash),
		unlike("C below", func(r *api.Reading) { r.C = single(-1) }, api.ErrClash),
		unlike("S above", func(r *api.Reading) { r.S = single(one) }, api.ErrClash),
		unlike("S below", func(r *api.Reading) { r.S = single(-one) }, api.ErrClash),
	)
	for _, place := range []int{1, 2} {
		for i := range defects {
			defects[i].number = place
		}
		wantDefects(t, "Averaged", right, defects, func(r api.Reading) (int, api.Errno) {
			l := []api.Reading{right(), right(), right(), {}}[:3]
			l[place] = r
			got, n, e := meter.Averaged(l)
			if e != api.OK && got != (api.Reading{}) {
				t.Errorf("%v beside the error %d", got, e)
			}
			return n, e
		})
	}
	// One by one, the last of three has nothing in common with both others together.
	l := []api.Reading{right(), other, right()}
	l[2].N = span(-10, 4)
	_, n, e := meter.Averaged(l)
	wantSame(t, "three", n, e, 2, api.ErrClash)
	l[1].Wave++
	_, n, e = meter.Averaged(l)
	wantSame(t, "the second one first", n, e, 1, api.ErrUnit)
	l[0].S = span(1, 0)
	_, n, e = meter.Averaged(l)
	wantSame(t, "the first one first", n, e, 0, api.ErrOrder)
}

// noNumber leaves out the number beside a result.
func noNumber[T any](x T, n int, e api.Errno) (T, api.Errno) { return x, e }
