package polar_test

import (
	"math"
	"slices"
	"testing"

	"etalon/api"
	"etalon/polar"
)

// sameSquares says whether two sums of squares are the same.
func sameSquares(a, b api.PolarSquares) bool {
	return a.Times == b.Times && slices.Equal(a.Terms, b.Terms)
}

// wantSquares reports squares or an error that are not the expected ones.
func wantSquares(t *testing.T, name string, got api.PolarSquares, e api.Errno, want api.PolarSquares, errno api.Errno) {
	t.Helper()
	if !sameSquares(got, want) || e != errno {
		t.Errorf("%s: %v, %d; want %v, %d", name, got, e, want, errno)
	}
	for _, term := range got.Terms {
		wantPlain(t, name, term.Matrix[:]...)
	}
}

// term returns a term of a sum of squares.
func term(weight int, v ...complex128) api.PolarSquare {
	return api.PolarSquare{Weight: weight, Matrix: api.JonesMatrix(v)}
}

// P5.5: Coherency.
func TestCoherency(t *testing.T) {
	for _, x := range []struct {
		name string
		m    api.Mueller
		want [16]complex128
	}{
		{"0", api.Mueller{}, [16]complex128{}},
		{"the unit matrix", diagonal(2, 2, 2, 2), [16]complex128{0: 4, 3: 4, 12: 4, 15: 4}},
		{"no sample", diagonal(1, 1, 1, -1), [16]complex128{0: 2, 15: 2, 6: 2, 9: 2}},
		{"what depolarises", diagonal(1, 0, 0, 0), [16]complex128{0: 1, 5: 1, 10: 1, 15: 1}},
		{"a number alone", api.Mueller{6: 1}, [16]complex128{1: 1, 4: 1, 11: -1, 14: -1}},
		{"an imaginary one", api.Mueller{3: 1}, [16]complex128{1: 1i, 4: -1i, 11: 1i, 14: -1i}},
		{"another one", api.Mueller{12: 1}, [16]complex128{2: -1i, 7: -1i, 8: 1i, 13: 1i}},
		{"of both", api.Mueller{11: 1}, [16]complex128{3: 1i, 6: -1i, 9: 1i, 12: -1i}},
		{"the greatest", api.Mueller{0: most, 1: most, 4: most, 5: most}, [16]complex128{0: 4 * most}},
		{"the least", api.Mueller{0: -most, 1: most, 4: most, 5: -most}, [16]complex128{15: -4 * most}},
	} {
		got, e := polar.Coherency(x.m)
		wantSame(t, x.name, got, e, x.want, api.OK)
		wantPlain(t, x.name, got[:]...)
	}
	r := draws(30)
	for range 3000 {
		m := drawnMueller(r, most)
		got, e := polar.Coherency(m)
		k, want := gridOf(m), [16]complex128{}
		for i := range want {
			want[i] = at(k[i/4][i%4][0], k[i/4][i%4][1])
		}
		wantSame(t, "coherency", got, e, want, api.OK)
		wantPlain(t, "coherency", got[:]...)
	}
}

// P5.5: the coherency matrix of the Mueller matrix of a Jones matrix is 4 v v*.
func TestCoherencyOfJones(t *testing.T) {
	r := draws(31)
	for range 2000 {
		j := drawnJones(r, api.MaxJones)
		var want [16]complex128
		for i := range want {
			z := j[i%4]
			want[i] = 4 * j[i/4] * complex(real(z), -imag(z))
		}
		got, e := polar.Coherency(muellerOf(t, j))
		wantSame(t, "coherency", got, e, want, api.OK)
	}
}

// notPhysical are matrices that no sample has.
func notPhysical() map[string]api.Mueller {
	return map[string]api.Mueller{
		"the chapter's example":             diagonal(1, 1, 1, -1),
		"the greatest of its kind":          diagonal(40, 40, 40, -40),
		"a first number below 0":            diagonal(-1, 0, 0, 0),
		"all below 0":                       diagonal(-40, -40, -40, -40),
		"0 in the diagonal, real beside":    {10: 1},
		"0 in the diagonal, below 0 beside": {10: -1},
		"0 in the diagonal, i beside":       {11: 1},
		"0 in the diagonal, -i beside":      {11: -1},
		"a first row of 0":                  {15: 1},
		"more polarised than light":         {0: 1, 1: 2},
		"a little too much":                 plus(diagonal(40, 39, 39, 39), api.Mueller{1: 2}),
		"0 in the first row of a diagonal":  {0: 1, 1: -1, 2: 1},
		"a number alone":                    {7: 40},
		"greatest numbers":                  {40, 40, 40, 40, 40, 40, 40, 40, 40, 40, 40, 40, 40, 40, 40, 40},
		"a witness above 10^6":              {40, 40, 40, -16, 40, -39, -40, -40, 40, -40, -5, 40, -21, 36, -40, 40},
		"a greatest value":                  {40, 40, -40, 2, 40, -40, 40, -40, 0, -40, -40, 1, -40, 40, -40, -40},
		"least numbers":                     {-40, -40, -40, -40, -40, -40, -40, -40, -40, -40, -40, -40, -40, -40, -40, -40},
	}
}

// arePhysical are matrices that samples have.
func arePhysical() map[string]api.Mueller {
	return map[string]api.Mueller{
		"0":                          {},
		"what depolarises":           diagonal(1, 0, 0, 0),
		"the greatest of its kind":   diagonal(40, 0, 0, 0),
		"the unit matrix":            diagonal(40, 40, 40, 40),
		"half of it":                 diagonal(2, 1, 1, 0),
		"a third of it, turned":      diagonal(3, 1, 1, -1),
		"a polariser":                {0: 1, 1: 1, 4: 1, 5: 1},
		"the last one alone":         {0: 40, 1: -40, 4: -40, 5: 40},
		"a polariser that polarises": {0: 1, 4: 1},
		"what is polarised at 45":    {0: 1, 2: 1, 8: 1, 10: 1},
		"what goes round":            {0: 1, 3: 1, 12: 1, 15: 1},
		"a plate":                    {0: 2, 5: 2, 11: -2, 14: 2},
		"nearly too much":            plus(diagonal(40, 39, 39, 39), api.Mueller{1: 1}),
	}
}

// P5.5: Physical.
func TestPhysical(t *testing.T) {
	for name, m := range arePhysical() {
		got, e := polar.Physical(m)
		wantSame(t, name, got, e, true, api.OK)
	}
	for name, m := range notPhysical() {
		got, e := polar.Physical(m)
		wantSame(t, name, got, e, false, api.OK)
	}
	r, seen := draws(32), map[bool]int{}
	for range 20000 {
		m := drawnTested(t, r)
		want := gridOf(m).isPhysical()
		got, e := polar.Physical(m)
		wantSame(t, "physical", got, e, want, api.OK)
		seen[want]++
	}
	if seen[true] < 3000 || seen[false] < 3000 {
		t.Errorf("drawn: %v", seen)
	}
}

// checkWitness reports a witness of Witness that is none.
func checkWitness(t *testing.T, name string, m api.Mueller) {
	t.Helper()
	v, value, e := polar.Witness(m)
	if e != api.OK {
		t.Errorf("%s: %v: %d", name, m, e)
		return
	}
	wantPlain(t, name, v[:]...)
	for _, z := range v {
		if !pairOf(z).isUpTo(api.MaxWitness) {
			t.Errorf("%s: %v: %v", name, m, v)
		}
	}
	if sum, isReal := gridOf(m).value(v); sum != value || !isReal || value >= 0 {
		t.Errorf("%s: %v: %v, %d; want %d", name, m, v, value, sum)
	}
	again, e := polar.CheckWitness(m, v)
	wantSame(t, name, again, e, value, api.OK)
}

// P5.5: Witness.
func TestWitness(t *testing.T) {
	for name, m := range notPhysical() {
		checkWitness(t, name, m)
	}
	for name, m := range arePhysical() {
		v, value, e := polar.Witness(m)
		if v != [4]complex128{} || value != 0 || e != api.ErrState {
			t.Errorf("%s: %v, %d, %d", name, v, value, e)
		}
	}
	r := draws(33)
	for range 20000 {
		m := drawnTested(t, r)
		if gridOf(m).isPhysical() {
			_, _, e := polar.Witness(m)
			wantError(t, "physical", e, api.ErrState)
		} else {
			checkWitness(t, "drawn", m)
		}
	}
}

// P5.5: CheckWitness takes any four numbers with a value below 0.
func TestCheckWitness(t *testing.T) {
	const far = api.MaxWitness
	example := diagonal(1, 1, 1, -1)
	for _, x := range []struct {
		name  string
		m     api.Mueller
		v     [4]complex128
		want  int
		errno api.Errno
	}{
		{"the chapter's example", example, [4]complex128{0, 1, -1, 0}, -4, api.OK},
		{"the other way round", example, [4]complex128{0, -1, 1, 0}, -4, api.OK},
		{"times i", example, [4]complex128{0, 1i, -1i, 0}, -4, api.OK},
		{"with something else", example, [4]complex128{0, 1, -2, 1}, -6, api.OK},
		{"with -0", example, [4]complex128{complex(minusZero, minusZero), complex(1, minusZero), -1, 0}, -4, api.OK},
		{"the greatest", example, [4]complex128{0, far, -far, 0}, -4 * far * far, api.OK},
		{"the greatest of all", diagonal(40, 40, 40, -40), [4]complex128{0, far - far*1i, far*1i - far, 0}, -320 * far * far, api.OK},
		{"no float of its value", diagonal(-40, 0, 0, 0), [4]complex128{far - 1, far, far*1i - 3, far + far*1i}, -40 * ((far-1)*(far-1) + far*far + far*far + 9 + 2*far*far), api.OK},
		{"a value of 0", example, [4]complex128{0, 1, 1i, 0}, 0, api.ErrProof},
		{"0", example, [4]complex128{}, 0, api.ErrProof},
		{"a value above 0", example, [4]complex128{1, 1, -1, 1}, 0, api.ErrProof},
		{"of a matrix with a sum of squares", diagonal(1, 1, 1, 1), [4]complex128{1, 0, 0, -1}, 0, api.ErrProof},
		{"of the matrix 0", api.Mueller{}, [4]complex128{1, 2, 3, 4}, 0, api.ErrProof},
		{"a value below 0, just", plus(diagonal(40, 39, 39, 39), api.Mueller{1: 2}), [4]complex128{0, 1, 0, 0}, -1, api.OK},
		{"a value of 0, just", plus(diagonal(40, 39, 39, 39), api.Mueller{1: 1}), [4]complex128{0, 1, 0, 0}, 0, api.ErrProof},
	} {
		got, e := polar.CheckWitness(x.m, x.v)
		wantSame(t, x.name, got, e, x.want, x.errno)
	}
	for i := range 4 {
		for _, x := range wrongNumbers(far) {
			v := [4]complex128{0, 1, -1, 0}
			v[i] = x.z
			got, e := polar.CheckWitness(example, v)
			wantSame(t, x.name, got, e, 0, x.errno)
		}
	}
	got, e := polar.CheckWitness(example, [4]complex128{0, far + 1, 0.5, 0})
	wantSame(t, "the first number first", got, e, 0, api.ErrRange)
	got, e = polar.CheckWitness(example, [4]complex128{0, 0.5, far + 1, 0})
	wantSame(t, "the first number first, not whole", got, e, 0, api.ErrWhole)
	r, accepted := draws(34), 0
	for range 20000 {
		m, size := drawnTested(t, r), drawnSize(r, far)
		v := [4]complex128{drawnNumber(r, size), drawnNumber(r, size), drawnNumber(r, size), drawnNumber(r, size)}
		want, errno := 0, api.ErrProof
		if value, _ := gridOf(m).value(v); value < 0 {
			want, errno = value, api.OK
			accepted++
		}
		got, e := polar.CheckWitness(m, v)
		wantSame(t, "drawn", got, e, want, errno)
	}
	if accepted < 1000 {
		t.Errorf("only %d are accepted", accepted)
	}
}

// P5.5: Squares.
func TestSquares(t *testing.T) {
	for _, x := range []struct {
		name string
		m    api.Mueller
		want api.PolarSquares
	}{
		{"0", api.Mueller{}, api.PolarSquares{Times: 1}},
		{"what depolarises", diagonal(1, 0, 0, 0), api.PolarSquares{Times: 1, Terms: []api.PolarSquare{
			term(1, 1, 0, 0, 0), term(1, 0, 1, 0, 0), term(1, 0, 0, 1, 0), term(1, 0, 0, 0, 1),
		}}},
		{"the unit matrix", diagonal(2, 2, 2, 2), api.PolarSquares{Times: 1, Terms: []api.PolarSquare{term(4, 1, 0, 0, 1)}}},
		{"a plate", api.Mueller{0: 2, 5: 2, 11: -2, 14: 2}, api.PolarSquares{Times: 1, Terms: []api.PolarSquare{term(4, 1, 0, 0, 1i)}}},
		// Where the diagonal has 0 nothing is taken: K has 2 in the rows 1 and 2 alone.
		{"a diagonal with 0", diagonal(1, -1, 1, -1), api.PolarSquares{Times: 1, Terms: []api.PolarSquare{term(2, 0, 1, 1, 0)}}},
		// K has 3 in the corners of the diagonal, 1 in the other corners, 1 in the middle.
		{"half a unit matrix", diagonal(2, 1, 1, 0), api.PolarSquares{Times: 3, Terms: []api.PolarSquare{
			term(1, 3, 0, 0, 1), term(3, 0, 1, 1, 0), term(8, 0, 0, 0, 1),
		}}},
		{"the last one alone", api.Mueller{0: 40, 1: -40, 4: -40, 5: 40}, api.PolarSquares{Times: 1, Terms: []api.PolarSquare{term(160, 0, 0, 0, 1)}}},
	} {
		got, e := polar.Squares(x.m)
		wantSquares(t, x.name, got, e, x.want, api.OK)
	}
	for name, m := range notPhysical() {
		x, e := polar.Squares(m)
		wantSquares(t, name, x, e, api.PolarSquares{}, api.ErrState)
	}
	r, seen := draws(35), map[api.Errno]int{}
	for range 20000 {
		m := drawnTested(t, r)
		want, errno := api.PolarSquares{}, api.ErrState
		if k := gridOf(m); k.isPhysical() {
			want, errno = bookSquares(k)
		}
		got, e := polar.Squares(m)
		wantSquares(t, "drawn", got, e, want, errno)
		seen[e]++
		if e == api.OK {
			n, e := polar.CheckSquares(m, got)
			wantSame(t, "drawn", n, e, len(got.Terms), api.OK)
		}
	}
	for _, errno := range []api.Errno{api.OK, api.ErrState, api.ErrLarge} {
		if seen[errno] < 500 {
			t.Errorf("only %d times the error %d", seen[errno], errno)
		}
	}
}

// P5.5: CheckSquares takes any sum of squares.
func TestCheckSquares(t *testing.T) {
	unit := diagonal(1, 1, 1, 1) // K is 2 in the corners.
	half := diagonal(1, 0, 0, 0)
	for _, x := range []struct {
		name  string
		m     api.Mueller
		times int
		terms []api.PolarSquare
		errno api.Errno
	}{
		{"the found one", unit, 1, []api.PolarSquare{term(2, 1, 0, 0, 1)}, api.OK},
		{"not in lowest terms", unit, 5, []api.PolarSquare{term(10, 1, 0, 0, 1)}, api.OK},
		{"a common factor in the matrix", unit, 8, []api.PolarSquare{term(1, 4, 0, 0, 4)}, api.OK},
		{"another phase", unit, 1, []api.PolarSquare{term(2, -1i, 0, 0, -1i)}, api.OK},
		{"another phase and size", unit, 1, []api.PolarSquare{term(1, 1+1i, 0, 0, 1+1i)}, api.OK},
		{"in two parts", unit, 1, []api.PolarSquare{term(1, 1, 0, 0, 1), term(1, 1i, 0, 0, 1i)}, api.OK},
		{"with nothing more", unit, 1, []api.PolarSquare{term(7, 0, 0, 0, 0), term(2, 1, 0, 0, 1)}, api.OK},
		{"with -0", unit, 1, []api.PolarSquare{term(2, complex(1, minusZero), complex(minusZero, minusZero), 0, 1)}, api.OK},
		{"the other way round", half, 1, []api.PolarSquare{term(1, 0, 0, 0, 1), term(1, 0, 0, 1, 0), term(1, 0, 1, 0, 0), term(1, 1, 0, 0, 0)}, api.OK},
		{"from other waves", half, 2, []api.PolarSquare{term(1, 1, 0, 0, 1), term(1, 1, 0, 0, -1), term(1, 0, 1, 1i, 0), term(1, 0, 1, -1i, 0)}, api.OK},
		{"none of the matrix 0", api.Mueller{}, 1, nil, api.OK},
		{"none of the matrix 0, often", api.Mueller{}, api.MaxPart, []api.PolarSquare{}, api.OK},
		{"nothing of the matrix 0", api.Mueller{}, 3, []api.PolarSquare{term(api.MaxSquare, 0, 0, 0, 0)}, api.OK},
		{"the greatest Times", unit, api.MaxPart, []api.PolarSquare{term(2*api.MaxPart, 1, 0, 0, 1)}, api.OK},
		{"the greatest sum", diagonal(40, 40, 40, 40), api.MaxPart, []api.PolarSquare{term(80*api.MaxPart, 1, 0, 0, 1)}, api.OK},
		{"the greatest sum of large numbers", diagonal(40, 40, 40, 40), api.MaxPart, []api.PolarSquare{term(8, 100000, 0, 0, 100000)}, api.OK},
		{"a little more", diagonal(40, 40, 40, 40), api.MaxPart, []api.PolarSquare{term(8, 100000, 0, 0, 100000), term(1, 0, 0, 0, 1)}, api.ErrProof},
		{"a little less", diagonal(40, 40, 40, 40), api.MaxPart, []api.PolarSquare{term(80*api.MaxPart-1, 1, 0, 0, 1)}, api.ErrProof},
		{"one too little", unit, 1, []api.PolarSquare{term(1, 1, 0, 0, 1)}, api.ErrProof},
		{"one too much", unit, 1, []api.PolarSquare{term(3, 1, 0, 0, 1)}, api.ErrProof},
		{"a wrong phase", unit, 1, []api.PolarSquare{term(2, 1, 0, 0, 1i)}, api.ErrProof},
		{"a wrong sign", unit, 1, []api.PolarSquare{term(2, 1, 0, 0, -1)}, api.ErrProof},
		{"none", unit, 1, nil, api.ErrProof},
		{"of the matrix 0", api.Mueller{}, 1, []api.PolarSquare{term(1, 0, 0, 1, 0)}, api.ErrProof},
		{"another Times", unit, 2, []api.PolarSquare{term(2, 1, 0, 0, 1)}, api.ErrProof},
		{"the diagonal alone", diagonal(1, 1, 0, 0), 1, []api.PolarSquare{term(2, 1, 0, 0, 1)}, api.ErrProof},
		{"of what no sample has", diagonal(-1, 0, 0, 0), 1, nil, api.ErrProof},
		{"nothing of what no sample has", diagonal(-1, 0, 0, 0), 1, []api.PolarSquare{term(2, 0, 0, 0, 0)}, api.ErrProof},
		{"something of what no sample has", diagonal(-1, 0, 0, 0), 1, []api.PolarSquare{term(1, 1, 0, 0, 0)}, api.ErrProof},
		// These are beyond what ints hold, or wrap around.
		{"the greatest term", unit, 1, []api.PolarSquare{term(api.MaxSquare, api.MaxWitness, 0, 0, api.MaxWitness)}, api.ErrProof},
		{"what wraps around", unit, 1, []api.PolarSquare{term(2, 1, 0, 0, 1), term(1<<39, 1<<23, 0, 0, 0), term(1<<39, 1<<23, 0, 0, 0)}, api.ErrProof},
		{"what wraps around to 0", api.Mueller{}, 1, slices.Repeat([]api.PolarSquare{term(1<<38, 1<<23, 0, 0, 1<<23)}, 16), api.ErrProof},
		{"a float without room", half, 1, []api.PolarSquare{
			term(1, 1, 0, 0, 0), term(1, 0, 1, 0, 0), term(1, 0, 0, 1, 0), term(1, 0, 0, 0, 1), term(1, 0, 0, 0, 1),
		}, api.ErrProof},
		{"so many terms", unit, 8, slices.Repeat([]api.PolarSquare{term(1, 1, 0, 0, 1)}, 16), api.OK},
		{"one term more", unit, 8, append(slices.Repeat([]api.PolarSquare{term(1, 1, 0, 0, 1)}, 16), term(1, 0, 0, 0, 0)), api.ErrLarge},
	} {
		want := 0
		if x.errno == api.OK {
			want = len(x.terms)
		}
		n, e := polar.CheckSquares(x.m, api.PolarSquares{Times: x.times, Terms: x.terms})
		wantSame(t, x.name, n, e, want, x.errno)
	}
}

// P5.5: errors of a sum of squares, in their order.
func TestErrorsOfSquares(t *testing.T) {
	unit, good := diagonal(1, 1, 1, 1), term(2, 1, 0, 0, 1)
	check := func(name string, times int, terms []api.PolarSquare, errno api.Errno) {
		t.Helper()
		n, e := polar.CheckSquares(unit, api.PolarSquares{Times: times, Terms: terms})
		wantSame(t, name, n, e, 0, errno)
	}
	bad, many := term(0, 0.5, 0, 0, 0), slices.Repeat([]api.PolarSquare{term(0, 0.5, 0, 0, 0)}, 17)
	for _, n := range []int{math.MinInt, -1, 0, api.MaxPart + 1, math.MaxInt} {
		check("Times", n, []api.PolarSquare{good}, api.ErrRange)
		check("Times ahead of too many terms", n, many, api.ErrRange)
	}
	check("too many terms", 1, many, api.ErrLarge)
	check("too many terms, by far", 1, make([]api.PolarSquare, 100000), api.ErrLarge)
	for _, n := range []int{math.MinInt, -1, 0, api.MaxSquare + 1, math.MaxInt} {
		check("a weight", 1, []api.PolarSquare{term(n, 1, 0, 0, 1)}, api.ErrRange)
		check("a weight ahead of its matrix", 1, []api.PolarSquare{term(n, 0.5, 0, 0, 1)}, api.ErrRange)
		check("a later weight", 1, []api.PolarSquare{good, term(n, 1, 0, 0, 1)}, api.ErrRange)
	}
	check("a term ahead of a later one", 1, []api.PolarSquare{term(1, 0, 0.5, 0, 0), bad}, api.ErrWhole)
	check("a number ahead of a later one", 1, []api.PolarSquare{term(1, 0, api.MaxWitness+1, 0.5, 0)}, api.ErrRange)
	check("all numbers ahead of the proof", 1, []api.PolarSquare{term(1, api.MaxWitness, 0, 0, 0), term(1, 0, 0, 0, 0.5)}, api.ErrWhole)
	for i := range 4 {
		for _, x := range wrongNumbers(api.MaxWitness) {
			wrong := good
			wrong.Matrix[i] = x.z
			check(x.name, 1, []api.PolarSquare{wrong}, x.errno)
			check("later: "+x.name, 1, []api.PolarSquare{good, wrong}, x.errno)
		}
	}
}

// P5.5: sums of squares that are drawn, and such with a small error, are what they are by fractions of any size.
func TestDrawnSquares(t *testing.T) {
	r, accepted := draws(36), 0
	for range 10000 {
		times := 1 + r.IntN(1+drawnSize(r, 1000))
		var m api.Mueller
		x := api.PolarSquares{Times: times}
		for range r.IntN(5) {
			j := drawnJones(r, 2)
			more := plus(m, muellerOf(t, j))
			if !isTested(more) {
				continue
			}
			m = more
			if r.IntN(2) == 0 {
				x.Terms = append(x.Terms, api.PolarSquare{Weight: 4 * times, Matrix: j})
				continue
			}
			for i := range j {
				j[i] *= 1 - 1i // Its square is 2.
			}
			x.Terms = append(x.Terms, api.PolarSquare{Weight: times, Matrix: j}, api.PolarSquare{Weight: times, Matrix: j})
		}
		if r.IntN(2) == 0 && len(x.Terms) > 0 {
			one := &x.Terms[r.IntN(len(x.Terms))]
			one.Matrix[r.IntN(4)] += drawnNumber(r, 1)
			one.Weight = max(1, one.Weight+drawn(r, 1)*r.IntN(2))
		}
		want, errno := 0, api.ErrProof
		if bookIsSum(gridOf(m), x) {
			want, errno = len(x.Terms), api.OK
			accepted++
		}
		n, e := polar.CheckSquares(m, x)
		wantSame(t, "drawn", n, e, want, errno)
	}
	if accepted < 3000 || accepted > 9000 {
		t.Errorf("%d sums are accepted", accepted)
	}
}
