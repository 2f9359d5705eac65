package meter_test

import (
	"math"
	"math/rand/v2"
	"reflect"
	"testing"

	"etalon/api"
)

const one = api.One

// minusZero is -0, which a constant can not be.
var minusZero = math.Copysign(0, -1)

// span returns a range.
func span(lo, hi int) api.Range { return api.Range{Lo: lo, Hi: hi} }

// single returns the range of a number.
func single(n int) api.Range { return span(n, n) }

// sums returns sums by their ranges.
func sums(all, cos, sin api.Range) api.MeterSums { return api.MeterSums{All: all, Cos: cos, Sin: sin} }

// turn returns a turn by its numbers.
func turn(p, q, r int) api.PolarTurn { return api.PolarTurn{P: p, Q: q, R: r} }

// scan returns a scan that no sample saturates.
func scan(margin int, samples ...float32) api.MeterScan {
	return api.MeterScan{Samples: samples, Margin: margin, Full: api.MaxSample + 1}
}

// matrix returns a calibration.
func matrix(den int, num ...int) api.MeterMatrix { return api.MeterMatrix{Num: [9]int(num), Den: den} }

// reading returns a right reading with these ranges.
func reading(n, c, s api.Range) api.Reading {
	return api.Reading{Name: "p", Wave: 6328, At: api.Incidence{Index: 10000, Sine: 7071}, N: n, C: c, S: s}
}

// query returns a right query of these scans.
func query(bare, plate api.MeterSums, twice api.PolarTurn) api.MeterQuery {
	return api.MeterQuery{Name: "p", Wave: 6328, At: api.Incidence{Index: 10000, Sine: 7071}, Bare: bare, Plate: plate, Twice: twice}
}

// must returns a result that has no error.
func must[T any](t *testing.T) func(x T, e api.Errno) T {
	return func(x T, e api.Errno) T {
		t.Helper()
		if e != api.OK {
			t.Fatalf("the error %d", e)
		}
		return x
	}
}

// wantSame reports a result or an error that is not the expected one.
func wantSame[T any](t *testing.T, name string, got T, e api.Errno, want T, errno api.Errno) {
	t.Helper()
	if !reflect.DeepEqual(got, want) || e != errno {
		t.Errorf("%s: %v, %d; want %v, %d", name, got, e, want, errno)
	}
}

// wantError reports an error that is not the expected one.
func wantError(t *testing.T, name string, e, want api.Errno) {
	t.Helper()
	if e != want {
		t.Errorf("%s: %d; want %d", name, e, want)
	}
}

// defect is something wrong with an argument: what makes it wrong, the error, and the number beside this.
type defect[T any] struct {
	name   string
	do     func(x *T)
	errno  api.Errno
	number int
}

// notTold stands for the number of a function that tells none.
const notTold = -1

// isTold says whether a number and an error are those of a defect.
func (d defect[T]) isTold(n int, e api.Errno) bool {
	return (n == d.number || n == notTold) && e == d.errno
}

// wantDefects asks for the error of each defect, and for that of the first one wherever there are two. The defects stand
// in the order of their errors; done last, the first one of two stays.
func wantDefects[T any](t *testing.T, name string, right func() T, defects []defect[T], call func(x T) (int, api.Errno)) {
	t.Helper()
	if n, e := call(right()); !(defect[T]{}).isTold(n, e) {
		t.Errorf("%s: %d, %d; want no error", name, n, e)
	}
	for i, first := range defects {
		x := right()
		first.do(&x)
		if n, e := call(x); !first.isTold(n, e) {
			t.Errorf("%s, %s: %d, %d; want %d, %d", name, first.name, n, e, first.number, first.errno)
		}
		for _, second := range defects[i+1:] {
			x := right()
			second.do(&x)
			first.do(&x)
			if n, e := call(x); !first.isTold(n, e) {
				t.Errorf("%s, %s and %s: %d, %d; want %d, %d", name, first.name, second.name, n, e, first.number, first.errno)
			}
		}
	}
}

// alone is a call that tells no number.
func alone[T any](call func(x T) api.Errno) func(x T) (int, api.Errno) {
	return func(x T) (int, api.Errno) { return notTold, call(x) }
}

// errorOf is a call that returns the error of a function, beside which its zero value must stand.
func errorOf[T, R any](t *testing.T, of func(x T) (R, api.Errno)) func(x T) (int, api.Errno) {
	return func(x T) (int, api.Errno) {
		got, e := of(x)
		if e != api.OK && !reflect.ValueOf(&got).Elem().IsZero() {
			t.Errorf("%v beside the error %d", got, e)
		}
		return notTold, e
	}
}

// within returns the defects of a part of an argument.
func within[T, P any](name string, part func(x *T) *P, defects []defect[P]) []defect[T] {
	var l []defect[T]
	for _, d := range defects {
		l = append(l, defect[T]{name + ": " + d.name, func(x *T) { d.do(part(x)) }, d.errno, d.number})
	}
	return l
}

// joined returns all of several lists of defects.
func joined[T any](lists ...[]defect[T]) []defect[T] {
	var all []defect[T]
	for _, l := range lists {
		all = append(all, l...)
	}
	return all
}

// numberBeyond returns the defects of a number that is to be from least to most.
func numberBeyond(least, most int) []defect[int] {
	var l []defect[int]
	for _, n := range []int{least - 1, most + 1, math.MinInt, math.MaxInt, math.MinInt + 1} {
		l = append(l, defect[int]{"beyond", func(x *int) { *x = n }, api.ErrRange, 0})
	}
	return l
}

// rangeDefects returns the defects of a range whose ends are to be at most most in size.
func rangeDefects(most int) []defect[api.Range] {
	return joined(
		within("Lo", func(r *api.Range) *int { return &r.Lo }, numberBeyond(-most, most)),
		within("Hi", func(r *api.Range) *int { return &r.Hi }, numberBeyond(-most, most)),
		[]defect[api.Range]{{"order", func(r *api.Range) { *r = span(1, 0) }, api.ErrOrder, 0}},
	)
}

// sumsDefects returns the defects of sums.
func sumsDefects() []defect[api.MeterSums] {
	return joined(
		within("All", func(x *api.MeterSums) *api.Range { return &x.All }, rangeDefects(api.MaxSum)),
		within("Cos", func(x *api.MeterSums) *api.Range { return &x.Cos }, rangeDefects(api.MaxSum)),
		within("Sin", func(x *api.MeterSums) *api.Range { return &x.Sin }, rangeDefects(api.MaxSum)),
	)
}

// matrixDefects returns the defects of a calibration.
func matrixDefects() []defect[api.MeterMatrix] {
	l := within("Den", func(m *api.MeterMatrix) *int { return &m.Den }, numberBeyond(1, api.MaxMeterPart))
	for i := range 9 {
		l = append(l, within("Num", func(m *api.MeterMatrix) *int { return &m.Num[i] }, numberBeyond(-api.MaxMeterPart, api.MaxMeterPart))...)
	}
	return l
}

// turnDefects returns the defects of a turn.
func turnDefects() []defect[api.PolarTurn] {
	return joined(
		within("R", func(t *api.PolarTurn) *int { return &t.R }, numberBeyond(1, api.MaxTurnSide)),
		[]defect[api.PolarTurn]{
			{"no turn", func(t *api.PolarTurn) { t.P, t.Q = 1, 1 }, api.ErrShape, 0},
			{"a great P", func(t *api.PolarTurn) { t.P = math.MinInt }, api.ErrShape, 0},
		},
	)
}

// wrongNames are texts that are no names.
func wrongNames() []string {
	return []string{"", "1", "-a", "a b", "a_", "abcdefghijklm", "é", " a", "a\n"}
}

// settingDefects returns the defects of a name, a wavelength and an incidence.
func settingDefects[T any](name func(x *T) *string, wave func(x *T) *int, at func(x *T) *api.Incidence) []defect[T] {
	var l []defect[T]
	for _, s := range wrongNames() {
		l = append(l, defect[T]{"the name " + s, func(x *T) { *name(x) = s }, api.ErrName, 0})
	}
	return joined(l,
		within("Wave", wave, numberBeyond(api.LeastWave, api.MaxWave)),
		within("Index", func(x *T) *int { return &at(x).Index }, numberBeyond(api.LeastIndex, api.MaxIndex)),
		within("Sine", func(x *T) *int { return &at(x).Sine }, numberBeyond(0, 9999)),
	)
}

// readingDefects returns the defects of a reading.
func readingDefects() []defect[api.Reading] {
	return joined(
		settingDefects(
			func(r *api.Reading) *string { return &r.Name },
			func(r *api.Reading) *int { return &r.Wave },
			func(r *api.Reading) *api.Incidence { return &r.At },
		),
		within("N", func(r *api.Reading) *api.Range { return &r.N }, rangeDefects(one)),
		within("C", func(r *api.Reading) *api.Range { return &r.C }, rangeDefects(one)),
		within("S", func(r *api.Reading) *api.Range { return &r.S }, rangeDefects(one)),
	)
}

// scanDefects returns the defects of a scan of at least 8 samples.
func scanDefects() []defect[api.MeterScan] {
	var l []defect[api.MeterScan]
	for _, n := range []int{0, 1, 2, 3, 5, 6, 7, 63, 65, 68, 4000} {
		l = append(l, defect[api.MeterScan]{"length", func(s *api.MeterScan) { s.Samples = make([]float32, n) }, api.ErrShape, 0})
	}
	l = joined(l,
		within("Margin", func(s *api.MeterScan) *int { return &s.Margin }, numberBeyond(0, api.MaxSample)),
		within("Full", func(s *api.MeterScan) *int { return &s.Full }, numberBeyond(1, api.MaxSample+1)),
	)
	for _, i := range []int{0, 5, 7} {
		for _, x := range oddSamples() {
			errno := api.ErrRange
			if x != x || math.IsInf(float64(x), 0) || math.Trunc(float64(x)) != float64(x) {
				errno = api.ErrWhole
			}
			l = append(l, defect[api.MeterScan]{"sample", func(s *api.MeterScan) { s.Samples[i] = x }, errno, i})
		}
	}
	return l
}

// oddSamples are numbers that are no samples.
func oddSamples() []float32 {
	inf := float32(math.Inf(1))
	return []float32{float32(math.NaN()), inf, -inf, 0.5, -0.5, 65535.5, -1.5, math.SmallestNonzeroFloat32, -1, api.MaxSample + 1, math.MaxFloat32, -math.MaxFloat32, 1 << 31}
}

// draws returns numbers that are the same in every run.
func draws(seed uint64) *rand.Rand { return rand.New(rand.NewPCG(seed, 6)) }

// drawn returns a number from -size to size.
func drawn(r *rand.Rand, size int) int { return r.IntN(2*size+1) - size }

// drawnSize returns a size up to most, all orders of magnitude being as likely.
func drawnSize(r *rand.Rand, most int) int {
	return min(most, r.IntN(1+1<<r.IntN(2+int(math.Log2(float64(max(most, 1)))))))
}

// drawnRange returns a range of any width with ends up to most in size.
func drawnRange(r *rand.Rand, most int) api.Range {
	lo, width := drawn(r, drawnSize(r, most)), drawnSize(r, most)
	return span(lo, min(lo+width, most))
}

// drawnSums returns sums of any size.
func drawnSums(r *rand.Rand) api.MeterSums {
	most := drawnSize(r, api.MaxSum)
	return sums(drawnRange(r, most), drawnRange(r, most), drawnRange(r, most))
}

// drawnMatrix returns a calibration of any size, with some numbers that are 0.
func drawnMatrix(r *rand.Rand) api.MeterMatrix {
	size := drawnSize(r, api.MaxMeterPart)
	m := api.MeterMatrix{Den: 1 + r.IntN(max(size, 1))}
	for i := range m.Num {
		if r.IntN(4) > 0 {
			m.Num[i] = drawn(r, size)
		}
	}
	return m
}

// drawnReading returns a right reading.
func drawnReading(r *rand.Rand) api.Reading {
	x := reading(drawnRange(r, one), drawnRange(r, one), drawnRange(r, one))
	x.Name = []string{"p", "Q9", "a-b", "abcdefghijkl"}[r.IntN(4)]
	x.Wave = api.LeastWave + r.IntN(api.MaxWave-api.LeastWave+1)
	x.At = api.Incidence{Index: api.LeastIndex + r.IntN(api.MaxIndex-api.LeastIndex+1), Sine: r.IntN(10000)}
	return x
}

// turnsUpTo returns all right turns whose R is at most so great.
func turnsUpTo(most int) []api.PolarTurn {
	var l []api.PolarTurn
	for r := 1; r <= most; r++ {
		for p := -r; p <= r; p++ {
			for q := -r; q <= r; q++ {
				if p*p+q*q == r*r {
					l = append(l, turn(p, q, r))
				}
			}
		}
	}
	return l
}
