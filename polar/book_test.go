package polar_test

import (
	"math/big"
	"slices"

	"etalon/api"
)

// What follows finds results once more, by the definitions alone, in whole numbers and fractions of any size.

// pair is a complex number: both parts as ints.
type pair [2]int

// pairOf returns a number with whole parts.
func pairOf(z complex128) pair { return pair{int(real(z)), int(imag(z))} }

func (a pair) plus(b pair) pair  { return pair{a[0] + b[0], a[1] + b[1]} }
func (a pair) minus(b pair) pair { return pair{a[0] - b[0], a[1] - b[1]} }
func (a pair) times(b pair) pair { return pair{a[0]*b[0] - a[1]*b[1], a[0]*b[1] + a[1]*b[0]} }
func (a pair) mirrored() pair    { return pair{a[0], -a[1]} }

// isUpTo says whether both parts are at most most in size.
func (a pair) isUpTo(most int) bool { return max(a[0], -a[0], a[1], -a[1]) <= most }

// two is two rows of two numbers.
type two [2][2]pair

// twoOf returns a Jones matrix.
func twoOf(m api.JonesMatrix) two {
	return two{{pairOf(m[0]), pairOf(m[1])}, {pairOf(m[2]), pairOf(m[3])}}
}

func (a two) times(b two) two {
	var c two
	for i := range 2 {
		for j := range 2 {
			for k := range 2 {
				c[i][j] = c[i][j].plus(a[i][k].times(b[k][j]))
			}
		}
	}
	return c
}

func (a two) adjoint() two {
	var c two
	for i := range 2 {
		for j := range 2 {
			c[i][j] = a[j][i].mirrored()
		}
	}
	return c
}

// told returns the matrix as a result: ErrLarge if a part is above MaxJones.
func (a two) told() (api.JonesMatrix, api.Errno) {
	var m api.JonesMatrix
	for i := range m {
		z := a[i/2][i%2]
		if !z.isUpTo(api.MaxJones) {
			return api.JonesMatrix{}, api.ErrLarge
		}
		m[i] = at(z[0], z[1])
	}
	return m, api.OK
}

// bookFour returns the matrices s0 to s3.
func bookFour() [4]two {
	one, none, i := pair{1, 0}, pair{}, pair{0, 1}
	return [4]two{
		{{one, none}, {none, one}},
		{{one, none}, {none, none.minus(one)}},
		{{none, one}, {one, none}},
		{{none, none.minus(i)}, {i, none}},
	}
}

// bookStokes returns the Stokes vector of a wave.
func bookStokes(v api.JonesVector) api.Stokes {
	x, y := pairOf(v.X), pairOf(v.Y)
	xx, yy, xy := x.times(x.mirrored()), y.times(y.mirrored()), x.times(y.mirrored())
	return api.Stokes{xx[0] + yy[0], xx[0] - yy[0], 2 * xy[0], -2 * xy[1]}
}

// bookTurned returns a matrix, turned.
func bookTurned(m two, t api.PolarTurn) two {
	forwards := two{{{t.P}, {-t.Q}}, {{t.Q}, {t.P}}}
	back := two{{{t.P}, {t.Q}}, {{-t.Q}, {t.P}}}
	return forwards.times(m).times(back)
}

// bookMueller returns the Mueller matrix of a Jones matrix.
func bookMueller(j api.JonesMatrix) api.Mueller {
	var m api.Mueller
	for a, sa := range bookFour() {
		for b, sb := range bookFour() {
			x := sa.times(twoOf(j)).times(sb).times(twoOf(j).adjoint())
			m[4*a+b] = x[0][0].plus(x[1][1])[0]
		}
	}
	return m
}

// grid is a coherency matrix.
type grid [4][4]pair

// gridOf returns the coherency matrix of a Mueller matrix.
func gridOf(m api.Mueller) grid {
	var k grid
	for i := range 4 {
		for j := range 4 {
			p, q, r, t := i/2, i%2, j/2, j%2
			for a, sa := range bookFour() {
				for b, sb := range bookFour() {
					k[i][j] = k[i][j].plus(sa[p][r].times(sb[q][t].mirrored()).times(pair{m[4*a+b]}))
				}
			}
		}
	}
	return k
}

// value returns the sum of all v[i]' K[i][k] v[k], and whether it is real.
func (k grid) value(v [4]complex128) (int, bool) {
	var sum pair
	for i := range 4 {
		for j := range 4 {
			sum = sum.plus(pairOf(v[i]).mirrored().times(k[i][j]).times(pairOf(v[j])))
		}
	}
	return sum[0], sum[1] == 0
}

// minor returns the determinant of some rows and columns.
func (k grid) minor(rows, columns []int) pair {
	if len(rows) == 0 {
		return pair{1}
	}
	var sum pair
	for i, column := range columns {
		rest := slices.Delete(slices.Clone(columns), i, i+1)
		x := k[rows[0]][column].times(k.minor(rows[1:], rest))
		if i%2 == 1 {
			x = pair{}.minus(x)
		}
		sum = sum.plus(x)
	}
	return sum
}

// isPhysical says whether no four numbers have a value below 0: just then no minor along the diagonal is below 0.
func (k grid) isPhysical() bool {
	for set := range 16 {
		var rows []int
		for i := range 4 {
			if set>>i&1 == 1 {
				rows = append(rows, i)
			}
		}
		if k.minor(rows, rows)[0] < 0 {
			return false
		}
	}
	return true
}

// isPure says whether the matrix is a number above 0 times v v* for some v other than 0: just then it is physical, not 0,
// and no minor of two rows is other than 0.
func (k grid) isPure() bool {
	for i := range 4 {
		for j := range i {
			for l := range 4 {
				for m := range l {
					if k.minor([]int{j, i}, []int{m, l}) != (pair{}) {
						return false
					}
				}
			}
		}
	}
	trace := 0
	for i := range 4 {
		if k[i][i][0] < 0 {
			return false
		}
		trace += k[i][i][0]
	}
	return trace > 0
}

// bookJones returns the Jones matrix of a pure matrix.
func bookJones(m api.Mueller) (api.JonesMatrix, api.Errno) {
	k := gridOf(m)
	if !k.isPure() {
		return api.JonesMatrix{}, api.ErrNone
	}
	first := 0
	for k[first][first] == (pair{}) {
		first++
	}
	var v [4]exact
	for i := range 4 {
		v[i] = exactOf(k[i][first])
	}
	v = lowest(v)
	return two{{v[0].pair(), v[1].pair()}, {v[2].pair(), v[3].pair()}}.told()
}

// exact is a complex number with fractions of any size.
type exact struct{ x, y *big.Rat }

// exactOf returns an exact number.
func exactOf(a pair) exact {
	return exact{big.NewRat(int64(a[0]), 1), big.NewRat(int64(a[1]), 1)}
}

// pair returns a number with whole parts.
func (a exact) pair() pair { return pair{int(a.x.Num().Int64()), int(a.y.Num().Int64())} }

func rat() *big.Rat { return new(big.Rat) }

func (a exact) minus(b exact) exact {
	return exact{rat().Sub(a.x, b.x), rat().Sub(a.y, b.y)}
}

func (a exact) times(b exact) exact {
	return exact{
		rat().Sub(rat().Mul(a.x, b.x), rat().Mul(a.y, b.y)),
		rat().Add(rat().Mul(a.x, b.y), rat().Mul(a.y, b.x)),
	}
}

func (a exact) scaled(f *big.Rat) exact { return exact{rat().Mul(a.x, f), rat().Mul(a.y, f)} }
func (a exact) mirrored() exact         { return exact{a.x, rat().Neg(a.y)} }
func (a exact) is0() bool               { return a.x.Sign() == 0 && a.y.Sign() == 0 }

// exactGrid is what is left of a coherency matrix.
type exactGrid [4][4]exact

// exactly returns the coherency matrix, multiplied.
func (k grid) exactly(times int) exactGrid {
	var left exactGrid
	for i := range 4 {
		for j := range 4 {
			left[i][j] = exactOf(k[i][j]).scaled(big.NewRat(int64(times), 1))
		}
	}
	return left
}

// less returns what is left behind w v v*.
func (k exactGrid) less(w *big.Rat, v [4]exact) exactGrid {
	for i := range 4 {
		for j := range 4 {
			k[i][j] = k[i][j].minus(v[i].times(v[j].mirrored()).scaled(w))
		}
	}
	return k
}

// is0 says whether nothing is left.
func (k exactGrid) is0() bool {
	for _, row := range k {
		for _, z := range row {
			if !z.is0() {
				return false
			}
		}
	}
	return true
}

// lowest returns fractions, multiplied by the fraction above 0 for which all parts are whole and have no divisor.
func lowest(v [4]exact) [4]exact {
	den, num := big.NewInt(1), new(big.Int)
	parts := func() []*big.Rat {
		var l []*big.Rat
		for _, z := range v {
			l = append(l, z.x, z.y)
		}
		return l
	}
	for _, x := range parts() {
		den.Mul(den, new(big.Int).Div(x.Denom(), new(big.Int).GCD(nil, nil, den, x.Denom())))
	}
	for _, x := range parts() {
		whole := rat().Mul(x, new(big.Rat).SetInt(den))
		num.GCD(nil, nil, num, new(big.Int).Abs(whole.Num()))
	}
	for i, z := range v {
		v[i] = z.scaled(new(big.Rat).SetFrac(den, num))
	}
	return v
}

// bookSquares returns the squares of a physical matrix, or ErrLarge.
func bookSquares(k grid) (api.PolarSquares, api.Errno) {
	left, times := k.exactly(1), big.NewInt(1)
	var weights []*big.Rat
	var matrices []api.JonesMatrix
	for i := range 4 {
		if left[i][i].is0() {
			continue
		}
		v := lowest([4]exact{left[0][i], left[1][i], left[2][i], left[3][i]})
		w := rat().Quo(left[i][i].x, v[i].times(v[i].mirrored()).x)
		left = left.less(w, v)
		times.Mul(times, new(big.Int).Div(w.Denom(), new(big.Int).GCD(nil, nil, times, w.Denom())))
		weights = append(weights, w)
		var m api.JonesMatrix
		for j, z := range v {
			m[j] = at(z.pair()[0], z.pair()[1])
		}
		matrices = append(matrices, m)
	}
	if !left.is0() {
		panic("something is left")
	}
	if times.Cmp(big.NewInt(api.MaxPart)) > 0 {
		return api.PolarSquares{}, api.ErrLarge
	}
	x := api.PolarSquares{Times: int(times.Int64())}
	for i, w := range weights {
		weight := rat().Mul(w, new(big.Rat).SetInt(times))
		x.Terms = append(x.Terms, api.PolarSquare{Weight: int(weight.Num().Int64()), Matrix: matrices[i]})
	}
	return x, api.OK
}

// bookIsSum says whether terms with right numbers add up to Times times the coherency matrix.
func bookIsSum(k grid, x api.PolarSquares) bool {
	left := k.exactly(x.Times)
	for _, term := range x.Terms {
		var v [4]exact
		for i, z := range term.Matrix {
			v[i] = exactOf(pairOf(z))
		}
		left = left.less(big.NewRat(int64(term.Weight), 1), v)
	}
	return left.is0()
}
