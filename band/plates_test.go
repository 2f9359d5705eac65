package band_test

import (
	"math"
	"math/big"
	"math/rand/v2"
	"slices"
	"testing"

	"etalon/api"
	"etalon/band"
)

// plate returns a plate by its index and its half, both as they are written.
func plate(index, half api.Frac) api.BandPlate { return api.BandPlate{Index: index, Half: half} }

// plain returns a plate with a whole index, and a half.
func plain(index, num, den int) api.BandPlate { return plate(of(index, 1), of(num, den)) }

// halfWave returns a half-wave plate.
func halfWave(index int) api.BandPlate {
	return api.BandPlate{Index: of(index, 1), Half: of(0, 1), Open: true}
}

// wrongPlate is what CheckPlates refuses.
type wrongPlate struct {
	name  string
	p     api.BandPlate
	errno api.Errno
}

// formless are fractions that are not in lowest terms with Den above 0; most have another error, too.
func formless() []api.Frac {
	return []api.Frac{
		{}, of(1, 0), of(0, 2), of(2, 2), of(2, 4), of(-3, 3), of(1, -1), of(-1, -1), of(0, -1), of(101, 0), of(202, 2), of(1, math.MinInt),
		of(math.MinInt, 0), of(math.MinInt, 2), of(math.MaxInt, math.MaxInt), of(math.MinInt, math.MinInt),
	}
}

// greatFracs are fractions in lowest terms one number of which is greater than MaxPlate.
func greatFracs() []api.Frac {
	return []api.Frac{of(101, 1), of(1, 101), of(-101, 1), of(101, 100), of(math.MaxInt, 1), of(math.MinInt, 1), of(1, math.MaxInt), of(math.MinInt, 3)}
}

func wrongPlates() []wrongPlate {
	var l []wrongPlate
	add := func(name string, p api.BandPlate, errno api.Errno) { l = append(l, wrongPlate{name, p, errno}) }
	for _, f := range formless() {
		add("the form of an index", plate(f, of(1, 1)), api.ErrForm)
		add("the form of a half", plate(of(1, 1), f), api.ErrForm)
		add("the form of an index ahead of the half", plate(f, of(101, 1)), api.ErrForm)
		add("the range of an index ahead of the form of the half", plate(of(0, 1), f), api.ErrRange)
		add("the form of a half ahead of a clash", api.BandPlate{Index: of(1, 1), Half: f, Open: true}, api.ErrForm)
	}
	for _, f := range greatFracs() {
		add("a great index", plate(f, of(1, 1)), api.ErrRange)
		add("a great half", plate(of(1, 1), f), api.ErrRange)
		add("a great index ahead of the form of the half", plate(f, of(2, 2)), api.ErrRange)
		add("a great half ahead of a clash", api.BandPlate{Index: of(1, 1), Half: f, Open: true}, api.ErrRange)
	}
	for _, n := range []int{0, -1, -100} {
		add("an index that is not above 0", plate(of(n, 1), of(1, 1)), api.ErrRange)
	}
	for _, f := range []api.Frac{of(1, 1), of(-1, 1), of(1, 100), of(100, 1)} {
		add("open and a half", api.BandPlate{Index: of(1, 1), Half: f, Open: true}, api.ErrClash)
		add("the range of an index ahead of a clash", api.BandPlate{Index: of(0, 1), Half: f, Open: true}, api.ErrRange)
	}
	add("nothing", api.BandPlate{}, api.ErrForm)
	return l
}

// rightPlates are plates at the ends of what is right.
func rightPlates() []api.BandPlate {
	return []api.BandPlate{
		plain(1, 0, 1), plain(100, 100, 1), plate(of(1, 100), of(1, 100)), plate(of(99, 100), of(-100, 99)), plain(1, -1, 1), halfWave(100),
		{Index: of(1, 100), Half: of(0, 1), Open: true}, plain(2, 1, 2),
	}
}

// ofPlates are the functions of plates; each returns its error, and whether the result is the zero value.
func ofPlates() map[string]func(l []api.BandPlate) (api.Errno, bool) {
	return map[string]func(l []api.BandPlate) (api.Errno, bool){
		"MatrixOf":    func(l []api.BandPlate) (api.Errno, bool) { return told(band.MatrixOf(l)) },
		"IsSymmetric": func(l []api.BandPlate) (api.Errno, bool) { return told(band.IsSymmetric(l)) },
		"Equivalent":  func(l []api.BandPlate) (api.Errno, bool) { return told(band.Equivalent(l)) },
	}
}

// P4.5: CheckPlates, and the errors of groups.
func TestCheckPlates(t *testing.T) {
	right := rightPlates()
	for _, l := range [][]api.BandPlate{nil, {}, right[:1], append(slices.Clone(right), plain(1, 1, 1))} {
		i, e := band.CheckPlates(l)
		wantSame(t, "right plates", i, e, 0, api.OK)
	}
	type wrong struct {
		name   string
		l      []api.BandPlate
		number int
		errno  api.Errno
	}
	all := []wrong{
		{"too many", slices.Repeat(right[:1], 10), 0, api.ErrLarge},
		{"too many ahead of wrong ones", make([]api.BandPlate, 10), 0, api.ErrLarge},
		{"wrong ones", make([]api.BandPlate, 9), 0, api.ErrForm},
	}
	for _, x := range wrongPlates() {
		all = append(all, wrong{x.name, []api.BandPlate{x.p, {}}, 0, x.errno})
		all = append(all, wrong{x.name, append(slices.Clone(right), x.p), 8, x.errno})
		all = append(all, wrong{x.name, []api.BandPlate{right[0], x.p, plate(of(101, 1), of(2, 2))}, 1, x.errno})
	}
	for _, x := range all {
		i, e := band.CheckPlates(x.l)
		wantSame(t, x.name, i, e, x.number, x.errno)
		for name, f := range ofPlates() {
			if e, none := f(x.l); e != x.errno || !none {
				t.Errorf("%s of %s: %d, %v; want %d", name, x.name, e, none, x.errno)
			}
		}
	}
}

// exact is a complex number of fractions of any size.
type exact [2]*big.Rat

func rat(f api.Frac) *big.Rat { return big.NewRat(int64(f.Num), int64(f.Den)) }

func (a exact) plus(b exact) exact {
	return exact{new(big.Rat).Add(a[0], b[0]), new(big.Rat).Add(a[1], b[1])}
}

func (a exact) times(b exact) exact {
	product := func(i, k int) *big.Rat { return new(big.Rat).Mul(a[i], b[k]) }
	return exact{new(big.Rat).Sub(product(0, 0), product(1, 1)), new(big.Rat).Add(product(0, 1), product(1, 0))}
}

// bookPlate returns the true matrix of a plate, whose second and third number are imaginary.
func bookPlate(p api.BandPlate) [4]exact {
	cosine, sine := big.NewRat(-1, 1), new(big.Rat)
	if !p.Open {
		t, one := rat(p.Half), big.NewRat(1, 1)
		square := new(big.Rat).Mul(t, t)
		all := new(big.Rat).Add(one, square)
		cosine = new(big.Rat).Quo(new(big.Rat).Sub(one, square), all)
		sine = new(big.Rat).Quo(new(big.Rat).Add(t, t), all)
	}
	n := rat(p.Index)
	real, imaginary := func(x *big.Rat) exact { return exact{x, new(big.Rat)} }, func(x *big.Rat) exact { return exact{new(big.Rat), x} }
	return [4]exact{real(cosine), imaginary(new(big.Rat).Quo(sine, n)), imaginary(new(big.Rat).Mul(sine, n)), real(cosine)}
}

// bookProduct returns the product of two matrices of complex numbers.
func bookProduct(a, b [4]exact) [4]exact {
	var p [4]exact
	for row := range 2 {
		for column := range 2 {
			p[2*row+column] = a[2*row].times(b[column]).plus(a[2*row+1].times(b[2+column]))
		}
	}
	return p
}

// told4 returns the four numbers that stand for a true matrix, and whether all of them are fit.
func told4(m [4]exact) ([4]api.Frac, bool) {
	var l [4]api.Frac
	for i, part := range [4]int{0, 1, 1, 0} {
		if m[i][1-part].Sign() != 0 {
			return l, false
		}
		num, den := m[i][part].Num(), m[i][part].Denom()
		if limit := big.NewInt(30000); num.CmpAbs(limit) > 0 || den.Cmp(limit) > 0 {
			return l, false
		}
		l[i] = of(int(num.Int64()), int(den.Int64()))
	}
	return l, true
}

// bookMatrix returns the matrix of a group, or ErrLarge.
func bookMatrix(l []api.BandPlate) ([4]api.Frac, api.Errno) {
	product := bookPlate(plain(1, 0, 1))
	for _, p := range l {
		own := bookPlate(p)
		if _, fit := told4(own); !fit {
			return [4]api.Frac{}, api.ErrLarge
		}
		product = bookProduct(product, own)
		if _, fit := told4(product); !fit {
			return [4]api.Frac{}, api.ErrLarge
		}
	}
	m, _ := told4(product)
	return m, api.OK
}

// bookEquivalent returns the equivalent of a group, or its error.
func bookEquivalent(l []api.BandPlate) (api.BandEquivalent, api.Errno) {
	m, e := bookMatrix(l)
	if e != api.OK {
		return api.BandEquivalent{}, e
	}
	if rat(m[0]).Cmp(rat(m[3])) != 0 {
		return api.BandEquivalent{}, api.ErrKind
	}
	if rat(m[1]).Sign() == 0 {
		return api.BandEquivalent{}, api.ErrZero
	}
	square := new(big.Rat).Quo(rat(m[2]), rat(m[1]))
	if square.Sign() <= 0 {
		return api.BandEquivalent{}, api.ErrNone
	}
	return api.BandEquivalent{Square: of(int(square.Num().Int64()), int(square.Denom().Int64())), Cosine: m[0]}, api.OK
}

// P4.5: MatrixOf, the chapter's examples and the ends of what is fit.
func TestMatrixOf(t *testing.T) {
	unit := [4]api.Frac{of(1, 1), of(0, 1), of(0, 1), of(1, 1)}
	mirrored := [4]api.Frac{of(-1, 1), of(0, 1), of(0, 1), of(-1, 1)}
	for _, x := range []struct {
		name  string
		l     []api.BandPlate
		want  [4]api.Frac
		errno api.Errno
	}{
		{"no plates", nil, unit, api.OK},
		{"a plate", []api.BandPlate{plain(2, 1, 2)}, [4]api.Frac{of(3, 5), of(2, 5), of(8, 5), of(3, 5)}, api.OK},
		{"a plate back", []api.BandPlate{plain(2, -1, 2)}, [4]api.Frac{of(3, 5), of(-2, 5), of(-8, 5), of(3, 5)}, api.OK},
		{"a plate that does nothing", []api.BandPlate{plain(7, 0, 1)}, unit, api.OK},
		{"a quarter wave", []api.BandPlate{plain(3, 1, 1)}, [4]api.Frac{of(0, 1), of(1, 3), of(3, 1), of(0, 1)}, api.OK},
		{"a half wave", []api.BandPlate{halfWave(3)}, mirrored, api.OK},
		{"two plates", []api.BandPlate{plain(1, 1, 2), plain(1, 1, 2)}, [4]api.Frac{of(-7, 25), of(24, 25), of(24, 25), of(-7, 25)}, api.OK},
		{"two quarter waves", []api.BandPlate{plain(1, 1, 1), plain(2, 1, 1)}, [4]api.Frac{of(-2, 1), of(0, 1), of(0, 1), of(-1, 2)}, api.OK},
		{"three quarter waves", []api.BandPlate{plain(1, 1, 1), plain(2, 1, 1), plain(1, 1, 1)}, [4]api.Frac{of(0, 1), of(-2, 1), of(-1, 2), of(0, 1)}, api.OK},
		{"a denominator of 30000", []api.BandPlate{plain(48, 17, 31)}, [4]api.Frac{of(336, 625), of(527, 30000), of(25296, 625), of(336, 625)}, api.OK},
		{"a numerator of 30000", []api.BandPlate{plain(25, 24, 25)}, [4]api.Frac{of(49, 1201), of(48, 1201), of(30000, 1201), of(49, 1201)}, api.OK},
		{"a numerator of -30000", []api.BandPlate{plain(25, -24, 25)}, [4]api.Frac{of(49, 1201), of(-48, 1201), of(-30000, 1201), of(49, 1201)}, api.OK},
		{"a denominator of 30005", []api.BandPlate{plain(17, 1, 42)}, [4]api.Frac{}, api.ErrLarge},
		{"nine plates", slices.Repeat([]api.BandPlate{plain(1, 1, 1)}, 9), [4]api.Frac{of(0, 1), of(1, 1), of(1, 1), of(0, 1)}, api.OK},
		{"a product of 5 to the power of 6", slices.Repeat([]api.BandPlate{plain(1, 1, 2)}, 6), [4]api.Frac{of(11753, 15625), of(-10296, 15625), of(-10296, 15625), of(11753, 15625)}, api.OK},
		{"a product of 5 to the power of 7", slices.Repeat([]api.BandPlate{plain(1, 1, 2)}, 7), [4]api.Frac{}, api.ErrLarge},
	} {
		m, e := band.MatrixOf(x.l)
		wantSame(t, x.name, m, e, x.want, x.errno)
		book, errno := bookMatrix(x.l)
		wantSame(t, x.name+", by the book", book, errno, x.want, x.errno)
	}
}

// P4.5: what is too large on the way is not fit again behind it.
func TestMatrixTooLargeOnTheWay(t *testing.T) {
	there, back := slices.Repeat([]api.BandPlate{plain(1, 1, 2)}, 7), plain(1, -1, 2)
	for _, l := range [][]api.BandPlate{append(slices.Clone(there), back), append(slices.Clone(there), back, back), {plain(17, 1, 42), plain(17, -1, 42)}} {
		for name, f := range ofPlates() {
			want := api.ErrLarge
			if name == "IsSymmetric" {
				want = api.OK
			}
			e, _ := f(l)
			wantError(t, name, e, want)
		}
	}
	m, e := band.MatrixOf(append([]api.BandPlate{back}, there...))
	if e != api.OK {
		t.Errorf("the same from the other end: %v, %d", m, e)
	}
}

// P4.5: IsSymmetric.
func TestIsSymmetric(t *testing.T) {
	a, b := plain(2, 1, 2), plain(1, 1, 2)
	for _, x := range []struct {
		name string
		l    []api.BandPlate
		want bool
	}{
		{"no plates", nil, true},
		{"one plate", []api.BandPlate{a}, true},
		{"two like ones", []api.BandPlate{a, a}, true},
		{"two others", []api.BandPlate{a, b}, false},
		{"three", []api.BandPlate{a, b, a}, true},
		{"three others", []api.BandPlate{a, a, b}, false},
		{"four", []api.BandPlate{a, b, b, a}, true},
		{"four others", []api.BandPlate{a, b, a, b}, false},
		{"other halves", []api.BandPlate{a, b, plain(2, -1, 2)}, false},
		{"other indices", []api.BandPlate{a, b, plain(3, 1, 2)}, false},
		{"open and not", []api.BandPlate{halfWave(2), b, plain(2, 0, 1)}, false},
		{"open both", []api.BandPlate{halfWave(2), b, halfWave(2)}, true},
		{"nine", []api.BandPlate{a, b, a, b, a, b, a, b, a}, true},
		{"nine others", []api.BandPlate{a, b, a, b, a, a, a, b, a}, false},
		{"a matrix that is too large", []api.BandPlate{plain(99, 99, 100), plain(98, 97, 99), plain(99, 99, 100)}, true},
	} {
		got, e := band.IsSymmetric(x.l)
		wantSame(t, x.name, got, e, x.want, api.OK)
	}
}

// P4.5: Equivalent, the chapter's examples and groups that have none.
func TestEquivalent(t *testing.T) {
	like := func(square, cosine api.Frac) api.BandEquivalent {
		return api.BandEquivalent{Square: square, Cosine: cosine}
	}
	around := func(outer, inner api.BandPlate) []api.BandPlate { return []api.BandPlate{outer, inner, outer} }
	none := api.BandEquivalent{}
	for _, x := range []struct {
		name  string
		l     []api.BandPlate
		want  api.BandEquivalent
		errno api.Errno
	}{
		{"a plate", []api.BandPlate{plain(2, 1, 2)}, like(of(4, 1), of(3, 5)), api.OK},
		{"two plates", []api.BandPlate{plain(1, 1, 2), plain(1, 1, 2)}, like(of(1, 1), of(-7, 25)), api.OK},
		{"three quarter waves", around(plain(1, 1, 1), plain(2, 1, 1)), like(of(1, 4), of(0, 1)), api.OK},
		{"a group that is not symmetric", []api.BandPlate{plain(2, 1, 3), plain(2, 2, 1)}, like(of(4, 1), of(-24, 25)), api.OK},
		{"other quarter waves", []api.BandPlate{plain(1, 1, 1), plain(2, 1, 1), plain(3, 1, 1)}, like(of(9, 4), of(0, 1)), api.OK},
		{"two quarter waves", []api.BandPlate{plain(1, 1, 1), plain(2, 1, 1)}, none, api.ErrKind},
		{"two others", []api.BandPlate{plain(1, 1, 2), plain(2, 1, 2)}, none, api.ErrKind},
		{"no plates", nil, none, api.ErrZero},
		{"a plate that does nothing", []api.BandPlate{plain(5, 0, 1)}, none, api.ErrZero},
		{"a half wave", []api.BandPlate{halfWave(2)}, none, api.ErrZero},
		{"two half waves", []api.BandPlate{halfWave(2), halfWave(3)}, none, api.ErrZero},
		{"there and back", []api.BandPlate{plain(2, 1, 3), plain(2, -1, 3)}, none, api.ErrZero},
		{"the second number alone is 0", around(plain(1, 1, 3), plain(4, 1, 3)), none, api.ErrZero},
		{"the third number alone is 0", around(plain(1, 1, 2), plain(4, 3, 1)), none, api.ErrNone},
		{"a square below 0", around(plain(2, 1, 3), plain(1, 1, 1)), none, api.ErrNone},
		{"another square below 0", around(plain(2, 1, 2), plain(3, 1, 1)), none, api.ErrNone},
		{"a plate that is too large", []api.BandPlate{plain(17, 1, 42)}, none, api.ErrLarge},
	} {
		got, e := band.Equivalent(x.l)
		wantSame(t, x.name, got, e, x.want, x.errno)
		book, errno := bookEquivalent(x.l)
		wantSame(t, x.name+", by the book", book, errno, x.want, x.errno)
	}
}

// drawnPlate returns a right plate, most often with small numbers.
func drawnPlate(r *rand.Rand) api.BandPlate {
	most := [4]int{2, 3, 12, 100}[r.IntN(4)]
	lowest := func(least int) api.Frac {
		f := big.NewRat(int64(drawnBetween(r, least, most)), int64(1+r.IntN(most)))
		return of(int(f.Num().Int64()), int(f.Denom().Int64()))
	}
	if r.IntN(8) == 0 {
		return api.BandPlate{Index: lowest(1), Half: of(0, 1), Open: true}
	}
	return plate(lowest(1), lowest(-most))
}

// drawnGroup returns right plates, most often as many on both sides.
func drawnGroup(r *rand.Rand) []api.BandPlate {
	var l []api.BandPlate
	for range r.IntN(4) {
		l = append(l, drawnPlate(r))
	}
	if r.IntN(3) == 0 {
		return l
	}
	turned := slices.Clone(l)
	slices.Reverse(turned)
	if r.IntN(2) == 0 {
		l = append(l, drawnPlate(r))
	}
	return append(l, turned...)
}

// P4.5, P4.9: groups of any plates.
func TestGroupsByTheBook(t *testing.T) {
	r := draws(30)
	seen := map[api.Errno]int{}
	symmetric := 0
	for range 30000 {
		l := drawnGroup(r)
		want, errno := bookMatrix(l)
		m, e := band.MatrixOf(l)
		wantSame(t, "a matrix", m, e, want, errno)
		x, e := band.Equivalent(l)
		wantX, errno := bookEquivalent(l)
		wantSame(t, "an equivalent", x, e, wantX, errno)
		seen[e]++
		turned := slices.Clone(l)
		slices.Reverse(turned)
		is, e := band.IsSymmetric(l)
		wantSame(t, "symmetric", is, e, slices.Equal(l, turned), api.OK)
		if is {
			symmetric++
		}
	}
	for _, e := range []api.Errno{api.OK, api.ErrLarge, api.ErrKind, api.ErrZero, api.ErrNone} {
		wantSeen(t, "an error of a group", seen[e], 100)
	}
	wantSeen(t, "symmetric groups", symmetric, 5000)
}

// P4.5: PlateOf, the chapter's examples, and each error ahead of the later ones.
func TestPlateOf(t *testing.T) {
	like := func(square, cosine api.Frac) api.BandEquivalent {
		return api.BandEquivalent{Square: square, Cosine: cosine}
	}
	// cosine returns the cosine of a plate with a whole half.
	cosine := func(half int) api.Frac {
		f := big.NewRat(int64(1-half*half), int64(1+half*half))
		return of(int(f.Num().Int64()), int(f.Denom().Int64()))
	}
	unit, none := of(1, 1), api.BandPlate{}
	for _, x := range []struct {
		name  string
		x     api.BandEquivalent
		want  api.BandPlate
		errno api.Errno
	}{
		{"the third example", like(of(4, 1), of(3, 5)), plain(2, 1, 2), api.OK},
		{"the fourth example", like(unit, of(-7, 25)), plain(1, 4, 3), api.OK},
		{"the fifth example", like(of(1, 4), of(0, 1)), plate(of(1, 2), of(1, 1)), api.OK},
		{"nothing", like(of(9, 4), unit), plate(of(3, 2), of(0, 1)), api.OK},
		{"a half wave", like(of(9, 4), of(-1, 1)), api.BandPlate{Index: of(3, 2), Half: of(0, 1), Open: true}, api.OK},
		{"an index of 100", like(of(10000, 1), unit), plain(100, 0, 1), api.OK},
		{"an index of 1 / 100", like(of(1, 10000), unit), plate(of(1, 100), of(0, 1)), api.OK},
		{"an index of 101", like(of(10201, 1), unit), none, api.ErrLarge},
		{"an index of 1 / 101", like(of(1, 10201), unit), none, api.ErrLarge},
		{"a half wave of 101", like(of(10201, 1), of(-1, 1)), none, api.ErrLarge},
		{"a half of 100", like(unit, cosine(100)), plain(1, 100, 1), api.OK},
		{"a half of 101", like(unit, cosine(101)), none, api.ErrLarge},
		{"a half of 1 / 101", like(unit, of(5100, 5101)), none, api.ErrLarge},
		{"the greatest square", like(of(31622*31622, 1), unit), none, api.ErrLarge},
		{"the greatest numbers", like(unit, of(999999999, 1000000000)), none, api.ErrNone},
		{"no square of a numerator", like(of(2, 1), unit), none, api.ErrNone},
		{"no square of a denominator", like(of(1, 2), unit), none, api.ErrNone},
		{"no square of both", like(of(3, 2), unit), none, api.ErrNone},
		{"a square of 0", like(of(0, 1), unit), none, api.ErrNone},
		{"a square below 0", like(of(-4, 1), unit), none, api.ErrNone},
		{"a cosine above 1", like(unit, of(2, 1)), none, api.ErrNone},
		{"a cosine just above 1", like(unit, of(1000000000, 999999999)), none, api.ErrNone},
		{"a cosine below -1", like(unit, of(-2, 1)), none, api.ErrNone},
		{"a cosine just below -1", like(unit, of(-1000000000, 999999999)), none, api.ErrNone},
		{"a cosine of no half", like(unit, of(1, 2)), none, api.ErrNone},
		{"another cosine of no half", like(unit, of(1, 3)), none, api.ErrNone},
		{"a cosine just above -1", like(unit, of(-999999999, 1000000000)), none, api.ErrNone},
		{"a square of no index ahead of a great half", like(of(2, 1), cosine(101)), none, api.ErrNone},
		{"a cosine of no half ahead of a great index", like(of(10201, 1), of(1, 2)), none, api.ErrNone},
		{"a cosine above 1 ahead of a great index", like(of(10201, 1), of(2, 1)), none, api.ErrNone},
		{"a great number of a square", like(of(1000000001, 1), unit), none, api.ErrRange},
		{"a great denominator of a square", like(of(1, 1000000001), unit), none, api.ErrRange},
		{"a great number below 0", like(of(-1000000001, 1), unit), none, api.ErrRange},
		{"a great number of a cosine", like(unit, of(1000000001, 1)), none, api.ErrRange},
		{"a great denominator of a cosine", like(unit, of(1, 1000000001)), none, api.ErrRange},
		{"the least number of a cosine", like(unit, of(math.MinInt, 1)), none, api.ErrRange},
		{"a great cosine ahead of no square", like(of(-1, 1), of(math.MaxInt, 1)), none, api.ErrRange},
	} {
		got, e := band.PlateOf(x.x)
		wantSame(t, x.name, got, e, x.want, x.errno)
	}
	for _, f := range formless() {
		for _, other := range []api.Frac{unit, of(2, 2), of(-1, 1), of(math.MaxInt, 1)} {
			got, e := band.PlateOf(like(f, other))
			wantSame(t, "the form of a square", got, e, none, api.ErrForm)
			got, e = band.PlateOf(like(other, f))
			wantSame(t, "the form of a cosine", got, e, none, api.ErrForm)
		}
	}
}

// P4.10: the plate of the equivalent of a group has the group's matrix, or that of the group back.
func TestBack(t *testing.T) {
	r, same, opposite, none := draws(31), 0, 0, 0
	for range 30000 {
		l := drawnGroup(r)
		x, e := band.Equivalent(l)
		if e != api.OK {
			continue
		}
		p, e := band.PlateOf(x)
		if e != api.OK {
			none++
			continue
		}
		want, _ := band.MatrixOf(l)
		got, e := band.MatrixOf([]api.BandPlate{p})
		back := [4]api.Frac{want[0], of(-want[1].Num, want[1].Den), of(-want[2].Num, want[2].Den), want[3]}
		switch {
		case e == api.OK && got == want:
			same++
		case e == api.OK && got == back:
			opposite++
		default:
			t.Fatalf("%v: %v, %v; want %v, %d", l, x, got, want, e)
		}
	}
	wantSeen(t, "the same matrix", same, 1000)
	wantSeen(t, "the opposite matrix", opposite, 1000)
	wantSeen(t, "no plate", none, 100)
}

// P4.10: plates of which PlateOf is asked are found again.
func TestPlateOfPlates(t *testing.T) {
	r := draws(32)
	for range 20000 {
		p := drawnPlate(r)
		m, fit := told4(bookPlate(p))
		if !fit {
			continue
		}
		square := new(big.Rat).Mul(rat(p.Index), rat(p.Index))
		p.Half.Num = max(p.Half.Num, -p.Half.Num)
		got, e := band.PlateOf(api.BandEquivalent{Square: of(int(square.Num().Int64()), int(square.Denom().Int64())), Cosine: m[0]})
		wantSame(t, "a plate", got, e, p, api.OK)
	}
}

// P4.10: a group that is repeated keeps the square of its equivalent.
func TestRepeated(t *testing.T) {
	r, seen := draws(33), 0
	for range 20000 {
		l := drawnGroup(r)
		if len(l) == 0 {
			continue
		}
		x, e := band.Equivalent(l)
		if e != api.OK {
			continue
		}
		for times := 2; times*len(l) <= api.MaxPlates; times++ {
			if y, e := band.Equivalent(slices.Repeat(l, times)); e == api.OK {
				seen++
				if y.Square != x.Square {
					t.Fatalf("%d times %v: %v; want %v", times, l, y.Square, x.Square)
				}
			} else if e != api.ErrLarge && e != api.ErrZero {
				t.Fatalf("%d times %v: %d", times, l, e)
			}
		}
	}
	wantSeen(t, "repeated groups", seen, 2000)
}

// P4.9: a d and b c add up to 1, a group from the other end, symmetric groups, half waves.
func TestPlatesTogether(t *testing.T) {
	r, symmetric := draws(34), 0
	for range 20000 {
		l := drawnGroup(r)
		m, e := band.MatrixOf(l)
		if e != api.OK {
			continue
		}
		ad, bc := new(big.Rat).Mul(rat(m[0]), rat(m[3])), new(big.Rat).Mul(rat(m[1]), rat(m[2]))
		if new(big.Rat).Add(ad, bc).Cmp(big.NewRat(1, 1)) != 0 {
			t.Fatalf("%v: %v and %v", l, ad, bc)
		}
		turned := slices.Clone(l)
		slices.Reverse(turned)
		if n, e := band.MatrixOf(turned); e == api.OK && n != [4]api.Frac{m[3], m[1], m[2], m[0]} {
			t.Fatalf("%v: %v; from the other end %v", l, m, n)
		}
		if is, _ := band.IsSymmetric(l); is {
			symmetric++
			if _, e := band.Equivalent(l); m[0] != m[3] || e == api.ErrKind {
				t.Fatalf("%v: %v, %d", l, m, e)
			}
		}
		// Two half waves, one after the other, do nothing, wherever they stand.
		if len(l)+2 <= api.MaxPlates {
			at := r.IntN(len(l) + 1)
			n, e := band.MatrixOf(slices.Insert(slices.Clone(l), at, halfWave(1+r.IntN(100)), halfWave(1+r.IntN(100))))
			wantSame(t, "two half waves", n, e, m, api.OK)
		}
	}
	wantSeen(t, "symmetric groups", symmetric, 2000)
}
