package meter_test

import (
	"math/big"
	"slices"

	"etalon/api"
	"etalon/ball"
	"etalon/polar"
)

// What follows finds results once more, by the definitions alone, with fractions of any size.

func rat(n int) *big.Rat           { return new(big.Rat).SetInt64(int64(n)) }
func plus(a, b *big.Rat) *big.Rat  { return new(big.Rat).Add(a, b) }
func minus(a, b *big.Rat) *big.Rat { return new(big.Rat).Sub(a, b) }
func times(a, b *big.Rat) *big.Rat { return new(big.Rat).Mul(a, b) }
func by(a, b *big.Rat) *big.Rat    { return new(big.Rat).Quo(a, b) }

// floor is exact: the denominator is above 0, so Div rounds down.
func floor(a *big.Rat) int { return int(new(big.Int).Div(a.Num(), a.Denom()).Int64()) }
func ceil(a *big.Rat) int  { return -floor(new(big.Rat).Neg(a)) }

// fromTo returns the range from the least to the greatest number, rounded down and up.
func fromTo(l []*big.Rat) api.Range {
	least := slices.MinFunc(l, (*big.Rat).Cmp)
	greatest := slices.MaxFunc(l, (*big.Rat).Cmp)
	return span(floor(least), ceil(greatest))
}

// ends returns both ends of a range.
func ends(r api.Range) []*big.Rat { return []*big.Rat{rat(r.Lo), rat(r.Hi)} }

// square3 is three rows of three numbers.
type square3 [3][3]*big.Rat

// squareOf returns the rows of a calibration.
func squareOf(m api.MeterMatrix) square3 {
	var s square3
	for i := range 9 {
		s[i/3][i%3] = by(rat(m.Num[i]), rat(m.Den))
	}
	return s
}

func (a square3) times(b square3) square3 {
	var c square3
	for i := range 3 {
		for j := range 3 {
			c[i][j] = rat(0)
			for k := range 3 {
				c[i][j] = plus(c[i][j], times(a[i][k], b[k][j]))
			}
		}
	}
	return c
}

// inverse returns the inverse of a matrix by elimination, and whether there is one.
func (a square3) inverse() (square3, bool) {
	var b square3
	for i := range 3 {
		for j := range 3 {
			b[i][j] = rat(0)
		}
		b[i][i] = rat(1)
	}
	for k := range 3 {
		pivot := k
		for pivot < 3 && a[pivot][k].Sign() == 0 {
			pivot++
		}
		if pivot == 3 {
			return b, false
		}
		a[k], a[pivot] = a[pivot], a[k]
		b[k], b[pivot] = b[pivot], b[k]
		x := a[k][k]
		for j := range 3 {
			a[k][j], b[k][j] = by(a[k][j], x), by(b[k][j], x)
		}
		for i := range 3 {
			if i == k {
				continue
			}
			x := a[i][k]
			for j := range 3 {
				a[i][j], b[i][j] = minus(a[i][j], times(x, a[k][j])), minus(b[i][j], times(x, b[k][j]))
			}
		}
	}
	return b, true
}

// sees returns what is told of sums: each row goes from its least to its greatest number.
func (a square3) sees(x api.MeterSums) (api.MeterSums, api.Errno) {
	var rows [3]api.Range
	for i, row := range a {
		var l []*big.Rat
		for _, all := range ends(x.All) {
			for _, cos := range ends(x.Cos) {
				for _, sin := range ends(x.Sin) {
					l = append(l, plus(times(row[0], all), plus(times(row[1], cos), times(row[2], sin))))
				}
			}
		}
		rows[i] = fromTo(l)
		if max(rows[i].Hi, -rows[i].Lo) > api.MaxSum {
			return api.MeterSums{}, api.ErrLarge
		}
	}
	return sums(rows[0], rows[1], rows[2]), api.OK
}

// bookSeen returns what is seen of right sums.
func bookSeen(m api.MeterMatrix, x api.MeterSums) (api.MeterSums, api.Errno) {
	return squareOf(m).sees(x)
}

// bookCorrected returns what is corrected of right sums.
func bookCorrected(m api.MeterMatrix, x api.MeterSums) (api.MeterSums, api.Errno) {
	back, ok := squareOf(m).inverse()
	if !ok {
		return api.MeterSums{}, api.ErrRank
	}
	return back.sees(x)
}

// bookChained returns the product of two calibrations.
func bookChained(a, b api.MeterMatrix) (api.MeterMatrix, api.Errno) {
	product := squareOf(a).times(squareOf(b))
	// The least denominator of all numbers is that in lowest terms.
	den := big.NewInt(1)
	for i := range 9 {
		d := product[i/3][i%3].Denom()
		den.Div(new(big.Int).Mul(den, d), new(big.Int).GCD(nil, nil, den, d))
	}
	m := api.MeterMatrix{Den: int(den.Int64())}
	large := m.Den > api.MaxMeterPart
	for i := range m.Num {
		m.Num[i] = floor(times(product[i/3][i%3], new(big.Rat).SetInt(den)))
		large = large || max(m.Num[i], -m.Num[i]) > api.MaxMeterPart
	}
	if large {
		return api.MeterMatrix{}, api.ErrLarge
	}
	return m, api.OK
}

// bookCut returns a range, cut.
func bookCut(r api.Range) (api.Range, api.Errno) {
	if r.Lo > one && r.Hi > one || r.Lo < -one && r.Hi < -one {
		return api.Range{}, api.ErrBreak
	}
	for _, end := range []*int{&r.Lo, &r.Hi} {
		if *end < -one {
			*end = -one
		}
		if *end > one {
			*end = one
		}
	}
	return r, api.OK
}

// bookRatios returns the ratios of right sums.
func bookRatios(x api.MeterSums) ([2]api.Range, api.Errno) {
	if x.All.Lo <= 0 {
		return [2]api.Range{}, api.ErrZero
	}
	var both [2]api.Range
	for i, part := range []api.Range{x.Cos, x.Sin} {
		var l []*big.Rat
		for _, p := range ends(part) {
			for _, all := range ends(x.All) {
				l = append(l, by(times(rat(2*one), p), all))
			}
		}
		var e api.Errno
		if both[i], e = bookCut(fromTo(l)); e != api.OK {
			return [2]api.Range{}, e
		}
	}
	return both, api.OK
}

// bookCosine returns N of a ratio.
func bookCosine(t api.PolarTurn, ratio api.Range) api.Range {
	of := func(x int) *big.Rat {
		above := minus(rat(t.P*one), rat(x*t.R))
		return by(times(above, rat(one)), minus(rat(t.R*one), rat(x*t.P)))
	}
	return span(floor(of(ratio.Hi)), ceil(of(ratio.Lo)))
}

// bookSine returns C, or S, of a ratio and N.
func bookSine(t api.PolarTurn, ratio, n api.Range) (api.Range, api.Errno) {
	var l []*big.Rat
	for _, y := range ends(ratio) {
		for _, z := range ends(n) {
			l = append(l, by(times(y, minus(rat(t.R*one), times(z, rat(t.P)))), rat(t.Q*one)))
		}
	}
	return bookCut(fromTo(l))
}

// bookReading returns the reading of a query whose name, wavelength and incidence are right, and its sums.
func bookReading(q api.MeterQuery) (api.Reading, api.Errno) {
	if e := polar.CheckTurn(q.Twice); e != api.OK {
		return api.Reading{}, e
	}
	if q.Twice.Q == 0 {
		return api.Reading{}, api.ErrZero
	}
	bare, e := bookRatios(q.Bare)
	if e != api.OK {
		return api.Reading{}, e
	}
	plate, e := bookRatios(q.Plate)
	if e != api.OK {
		return api.Reading{}, e
	}
	a, c := bookCosine(q.Twice, bare[0]), bookCosine(q.Twice, plate[0])
	r := api.Reading{Name: q.Name, Wave: q.Wave, At: q.At, N: span(max(a.Lo, c.Lo), min(a.Hi, c.Hi))}
	if r.N.Lo > r.N.Hi {
		return api.Reading{}, api.ErrClash
	}
	if r.C, e = bookSine(q.Twice, bare[1], r.N); e != api.OK {
		return api.Reading{}, e
	}
	if r.S, e = bookSine(q.Twice, plate[1], r.N); e != api.OK {
		return api.Reading{}, e
	}
	return r, api.OK
}

// bookDegree returns the least and the greatest degree of a right reading.
func bookDegree(r api.Reading) (least, greatest *big.Rat) {
	least, greatest = rat(0), rat(0)
	for _, x := range []api.Range{r.N, r.C, r.S} {
		near, far := rat(0), rat(max(-x.Lo, x.Hi))
		if x.Lo > 0 {
			near = rat(x.Lo)
		}
		if x.Hi < 0 {
			near = rat(x.Hi)
		}
		near, far = by(near, rat(one)), by(far, rat(one))
		least, greatest = plus(least, times(near, near)), plus(greatest, times(far, far))
	}
	return least, greatest
}

// bookPossible returns whether light may have a right reading.
func bookPossible(r api.Reading) int {
	least, greatest := bookDegree(r)
	switch {
	case least.Cmp(rat(1)) > 0:
		return api.AnswerNo
	case greatest.Cmp(rat(1)) <= 0:
		return api.AnswerYes
	}
	return api.AnswerMaybe
}

// bookCosines returns u(k) for each k.
func bookCosines() [1025]api.Range {
	var u [1025]api.Range
	for k := range u {
		b, _ := ball.Unit(k, 2048)
		parts, _ := ball.PartsOf(b)
		u[k] = parts[0]
	}
	return u
}

// bookPsi returns psi of a right reading.
func bookPsi(u [1025]api.Range, n api.Range) api.Range {
	psi := span(0, 1024)
	for k := 1024; k >= 0; k-- {
		if u[k].Lo >= n.Hi {
			psi.Lo = k
			break
		}
	}
	for k := range u {
		if u[k].Hi <= n.Lo {
			psi.Hi = k
			break
		}
	}
	return psi
}

// bookHarmonic returns both parts of a sum: number j times i to the power of - j steps. Numbers are their parts.
func bookHarmonic(numbers [][2]int, steps int) [2]int {
	var sum [2]int
	for j, z := range numbers {
		// Each quarter of a turn back takes i to 1, and 1 to -i.
		for range ((j*steps)%4 + 4) % 4 {
			z = [2]int{z[1], -z[0]}
		}
		sum[0] += z[0]
		sum[1] += z[1]
	}
	return sum
}
