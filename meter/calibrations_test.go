package meter_test

import (
	"testing"

	"etalon/api"
	"etalon/meter"
	"etalon/polar"
)

// unit is the calibration that sees what there is.
func unit() api.MeterMatrix { return matrix(1, 1, 0, 0, 0, 1, 0, 0, 0, 1) }

// P6.3: CheckMatrix.
func TestCheckMatrix(t *testing.T) {
	wantDefects(t, "CheckMatrix", unit, matrixDefects(), alone(meter.CheckMatrix))
	const most = api.MaxMeterPart
	for _, m := range []api.MeterMatrix{
		matrix(1, 0, 0, 0, 0, 0, 0, 0, 0, 0), matrix(most, most, -most, most, -most, most, -most, most, -most, most), matrix(1, most, 0, 0, 0, -most, 0, 0, 0, 7), matrix(2, 2, 4, 6, 8, 10, 12, 14, 16, 18),
	} {
		wantError(t, "a right calibration", meter.CheckMatrix(m), api.OK)
	}
}

// twoMatrices are the arguments of Chained.
type twoMatrices struct{ a, b api.MeterMatrix }

// P6.3: Chained.
func TestChained(t *testing.T) {
	const most = api.MaxMeterPart
	wantDefects(t, "Chained", func() twoMatrices { return twoMatrices{unit(), unit()} },
		joined(
			within("a", func(x *twoMatrices) *api.MeterMatrix { return &x.a }, matrixDefects()),
			within("b", func(x *twoMatrices) *api.MeterMatrix { return &x.b }, matrixDefects()),
		),
		errorOf(t, func(x twoMatrices) (api.MeterMatrix, api.Errno) { return meter.Chained(x.a, x.b) }))
	for _, x := range []struct {
		a, b, want api.MeterMatrix
		errno      api.Errno
	}{
		{unit(), unit(), unit(), api.OK},
		{matrix(1, 1, 2, 3, 4, 5, 6, 7, 8, 9), matrix(1, 0, 1, 0, 0, 0, 1, 1, 0, 0), matrix(1, 3, 1, 2, 6, 4, 5, 9, 7, 8), api.OK},
		{matrix(2, 2, 0, 0, 0, 2, 0, 0, 0, 2), unit(), unit(), api.OK},
		{matrix(6, 4, 0, 0, 0, 0, 0, 0, 0, 0), unit(), matrix(3, 2, 0, 0, 0, 0, 0, 0, 0, 0), api.OK},
		{matrix(1, 4, 0, 0, 0, 6, 0, 0, 0, 8), unit(), matrix(1, 4, 0, 0, 0, 6, 0, 0, 0, 8), api.OK},
		{matrix(7, 0, 0, 0, 0, 0, 0, 0, 0, 0), matrix(11, 1, 1, 1, 1, 1, 1, 1, 1, 1), matrix(1, 0, 0, 0, 0, 0, 0, 0, 0, 0), api.OK},
		{matrix(most, -most, 0, 0, 0, most, 0, 0, 0, most), matrix(most, most, 0, 0, 0, most, 0, 0, 0, most), matrix(1, -1, 0, 0, 0, 1, 0, 0, 0, 1), api.OK},
		{matrix(1, most, 0, 0, 0, 1, 0, 0, 0, 1), unit(), matrix(1, most, 0, 0, 0, 1, 0, 0, 0, 1), api.OK},
		{matrix(1, most, 1, 0, 0, 1, 0, 0, 0, 1), matrix(1, 1, 0, 0, 1, 1, 0, 0, 0, 1), api.MeterMatrix{}, api.ErrLarge},
		{matrix(1, 1, 0, 0, 0, -most, -1, 0, 0, 1), matrix(1, 1, 0, 0, 0, 1, 0, 0, 1, 1), api.MeterMatrix{}, api.ErrLarge},
		{matrix(most, 1, 0, 0, 0, 1, 0, 0, 0, 1), matrix(1, 1, 0, 0, 0, 1, 0, 0, 0, 1), matrix(most, 1, 0, 0, 0, 1, 0, 0, 0, 1), api.OK},
		{matrix(501, 1, 0, 0, 0, 1, 0, 0, 0, 1), matrix(2, 1, 0, 0, 0, 1, 0, 0, 0, 1), api.MeterMatrix{}, api.ErrLarge},
		{matrix(501, 2, 0, 0, 0, 2, 0, 0, 0, 4), matrix(2, 1, 0, 0, 0, 1, 0, 0, 0, 1), matrix(501, 1, 0, 0, 0, 1, 0, 0, 0, 2), api.OK},
		{matrix(most, most, most, most, most, most, most, most, most, most), matrix(most, most, most, most, most, most, most, most, most, most), matrix(1, 3, 3, 3, 3, 3, 3, 3, 3, 3), api.OK},
		{matrix(1, most, most, most, most, most, most, most, most, most), matrix(1, most, most, most, most, most, most, most, most, most), api.MeterMatrix{}, api.ErrLarge},
	} {
		got, e := meter.Chained(x.a, x.b)
		wantSame(t, "chained", got, e, x.want, x.errno)
	}
	r := draws(20)
	large := 0
	for range 20000 {
		a, b := drawnMatrix(r), drawnMatrix(r)
		want, errno := bookChained(a, b)
		got, e := meter.Chained(a, b)
		wantSame(t, "chained", got, e, want, errno)
		if errno != api.OK {
			large++
		}
	}
	if large < 2000 || large > 18000 {
		t.Errorf("%d of 20000 are too large", large)
	}
}

// P6.3: Offset.
func TestOffset(t *testing.T) {
	wantDefects(t, "Offset", func() api.PolarTurn { return turn(3, 4, 5) }, turnDefects(), errorOf(t, meter.Offset))
	for _, x := range []struct {
		t    api.PolarTurn
		want api.MeterMatrix
	}{
		{turn(0, 1, 1), matrix(1, 1, 0, 0, 0, 0, -1, 0, 1, 0)},
		{turn(3, 4, 5), matrix(5, 5, 0, 0, 0, 3, -4, 0, 4, 3)},
		{turn(-3, -4, 5), matrix(5, 5, 0, 0, 0, -3, 4, 0, -4, -3)},
		{turn(6, 8, 10), matrix(10, 10, 0, 0, 0, 6, -8, 0, 8, 6)},
		{turn(1000, 0, 1000), matrix(1000, 1000, 0, 0, 0, 1000, 0, 0, 0, 1000)},
		{turn(-600, 800, 1000), matrix(1000, 1000, 0, 0, 0, -600, -800, 0, 800, -600)},
	} {
		got, e := meter.Offset(x.t)
		wantSame(t, "offset", got, e, x.want, api.OK)
		wantError(t, "the calibration of an offset", meter.CheckMatrix(got), api.OK)
	}
	for _, x := range []api.PolarTurn{turn(1, 1, 1), turn(1, 0, 0), turn(1, 0, -1), turn(1001, 0, 1001), turn(0, 0, 1), {}} {
		got, e := meter.Offset(x)
		wantSame(t, "no turn", got, e, api.MeterMatrix{}, polar.CheckTurn(x))
	}
}

// asked is the arguments of Seen and Corrected.
type asked struct {
	m api.MeterMatrix
	x api.MeterSums
}

func seen(a asked) (api.MeterSums, api.Errno)      { return meter.Seen(a.m, a.x) }
func corrected(a asked) (api.MeterSums, api.Errno) { return meter.Corrected(a.m, a.x) }

// askedDefects returns the defects of a calibration and of sums.
func askedDefects() []defect[asked] {
	return joined(
		within("m", func(a *asked) *api.MeterMatrix { return &a.m }, matrixDefects()),
		within("x", func(a *asked) *api.MeterSums { return &a.x }, sumsDefects()),
	)
}

// P6.3: Seen and Corrected, by examples.
func TestSeenAndCorrected(t *testing.T) {
	const most = api.MaxSum
	x := sums(span(76, 84), span(18, 22), span(-2, 2))
	tooLarge := defect[asked]{"too large", func(a *asked) {
		a.m, a.x = matrix(1, 2, 0, 0, 0, 1, 0, 0, 0, 1), sums(single(5000001), single(0), single(0))
	}, api.ErrLarge, 0}
	wantDefects(t, "Seen", func() asked { return asked{unit(), x} }, append(askedDefects(), tooLarge), errorOf(t, seen))
	tooLarge.do = func(a *asked) {
		a.m, a.x = matrix(2, 1, 0, 0, 0, 2, 0, 0, 0, 2), sums(single(-5000001), single(0), single(0))
	}
	noRank := defect[asked]{"no inverse", func(a *asked) { a.m = matrix(3, 1, 2, 3, 4, 5, 6, 7, 8, 9) }, api.ErrRank, 0}
	wantDefects(t, "Corrected", func() asked { return asked{unit(), x} }, append(askedDefects(), noRank, tooLarge), errorOf(t, corrected))
	for _, y := range []struct {
		name  string
		call  func(a asked) (api.MeterSums, api.Errno)
		m     api.MeterMatrix
		x     api.MeterSums
		want  api.MeterSums
		errno api.Errno
	}{
		{"offset", seen, matrix(1, 1, 0, 0, 0, 0, -1, 0, 1, 0), x, sums(span(76, 84), span(-2, 2), span(18, 22)), api.OK},
		{"offset back", corrected, matrix(1, 1, 0, 0, 0, 0, -1, 0, 1, 0), sums(span(76, 84), span(-2, 2), span(18, 22)), x, api.OK},
		{"rounded", seen, matrix(3, 1, 0, 0, 0, -1, 0, 0, 0, 2), x, sums(span(25, 28), span(-8, -6), span(-2, 2)), api.OK},
		{"row by row", seen, matrix(1, 1, -1, 1, 2, 0, 0, 0, -3, 1), x, sums(span(52, 68), span(152, 168), span(-68, -52)), api.OK},
		{"nothing", seen, matrix(1, 0, 0, 0, 0, 0, 0, 0, 0, 0), x, api.MeterSums{}, api.OK},
		{"no inverse", corrected, matrix(1, 0, 0, 0, 0, 0, 0, 0, 0, 0), x, api.MeterSums{}, api.ErrRank},
		{"a column like another", corrected, matrix(1, 1, 1, 0, 2, 2, 0, 0, 0, 5), x, api.MeterSums{}, api.ErrRank},
		{"seen without an inverse", seen, matrix(1, 1, 1, 0, 2, 2, 0, 0, 0, 5), x, sums(span(94, 106), span(188, 212), span(-10, 10)), api.OK},
		{"a determinant below 0", corrected, matrix(1, 0, 1, 0, 1, 0, 0, 0, 0, 2), x, sums(span(18, 22), span(76, 84), span(-1, 1)), api.OK},
		{"all signs turned", corrected, matrix(1, -1, 0, 0, 0, -1, 0, 0, 0, -1), x, sums(span(-84, -76), span(-22, -18), span(-2, 2)), api.OK},
		{"thirds", corrected, matrix(1, 3, 0, 0, 0, -3, 0, 0, 0, 3), x, sums(span(25, 28), span(-8, -6), span(-1, 1)), api.OK},
		{"just not too large", seen, matrix(1, 2, 0, 0, 0, 2, 0, 0, 0, -2), sums(single(most/2), single(-most/2), span(-most/2, most/2)), sums(single(most), single(-most), span(-most, most)), api.OK},
		{"All too large", seen, matrix(1, 2, 0, 0, 0, 1, 0, 0, 0, 1), sums(span(0, most/2+1), single(0), single(0)), api.MeterSums{}, api.ErrLarge},
		{"Cos too large", seen, matrix(1, 1, 0, 0, 0, 2, 0, 0, 0, 1), sums(single(0), span(-most/2-1, 0), single(0)), api.MeterSums{}, api.ErrLarge},
		{"Sin too large", seen, matrix(1, 1, 0, 0, 0, 1, 0, 0, 0, -2), sums(single(0), single(0), span(-most/2-1, 0)), api.MeterSums{}, api.ErrLarge},
		{"rounded to what is too large", seen, matrix(999, 1000, 0, 0, 0, 1, 0, 0, 0, 1), sums(single(9990001), single(0), single(0)), api.MeterSums{}, api.ErrLarge},
		{"rounded to what is not", seen, matrix(999, 1000, 0, 0, 0, 1, 0, 0, 0, 1), sums(single(9990000), single(0), single(0)), sums(single(most), single(0), single(0)), api.OK},
	} {
		got, e := y.call(asked{y.m, y.x})
		wantSame(t, y.name, got, e, y.want, y.errno)
	}
}

// P6.3: Seen and Corrected are as the definition says, up to the greatest numbers.
func TestSeenAndCorrectedByTheBook(t *testing.T) {
	const most = api.MaxMeterPart
	greatest := []api.MeterMatrix{
		matrix(most, most, most, -most, -most, most, most, most, -most, most),
		matrix(most, most, most, most, most, most-1, most, most-1, most, most),
		matrix(1, most, most, most, most, most, most-1, -most, most-1, most),
	}
	r := draws(21)
	count := map[api.Errno]int{}
	for i := range 20000 {
		m, x := drawnMatrix(r), drawnSums(r)
		if i%50 == 0 {
			m = greatest[i/50%len(greatest)]
		}
		if i%4 == 1 {
			// What is found back is seldom too large.
			y, e := bookSeen(m, sums(span(x.All.Lo/1000, x.All.Hi/1000), span(x.Cos.Lo/1000, x.Cos.Hi/1000), span(x.Sin.Lo/1000, x.Sin.Hi/1000)))
			if e == api.OK {
				x = y
			}
		}
		want, errno := bookSeen(m, x)
		got, e := meter.Seen(m, x)
		wantSame(t, "seen", got, e, want, errno)
		want, errno = bookCorrected(m, x)
		got, e = meter.Corrected(m, x)
		wantSame(t, "corrected", got, e, want, errno)
		count[errno]++
	}
	if count[api.OK] < 4000 || count[api.ErrRank] < 1000 || count[api.ErrLarge] < 100 {
		t.Errorf("%v", count)
	}
}
