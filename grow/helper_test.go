package grow_test

import (
	"math"
	"math/rand/v2"
	"reflect"
	"slices"
	"testing"

	"etalon/api"
)

// span returns a range.
func span(lo, hi int) api.Range { return api.Range{Lo: lo, Hi: hi} }

// just returns the range of a single number.
func just(n int) api.Range { return span(n, n) }

// must returns a result that has no error.
func must[T any](t *testing.T) func(x T, e api.Errno) T {
	return func(x T, e api.Errno) T {
		t.Helper()
		if e != api.OK {
			t.Fatalf("the error %d", e)
		}
		return x
	}
}

// same says whether results are the same; nil and empty lists are.
func same[T any](a, b T) bool {
	x, y := reflect.ValueOf(a), reflect.ValueOf(b)
	if x.IsValid() && x.Kind() == reflect.Slice && x.Len() == 0 && y.Len() == 0 {
		return true
	}
	return reflect.DeepEqual(a, b)
}

// wantSame reports a result or an error that is not the expected one.
func wantSame[T any](t *testing.T, name string, got T, e api.Errno, want T, errno api.Errno) {
	t.Helper()
	if !same(got, want) || e != errno {
		t.Errorf("%s: %v, %d; want %v, %d", name, got, e, want, errno)
	}
}

// wantSeen reports that too few results were looked at.
func wantSeen(t *testing.T, name string, seen, least int) {
	t.Helper()
	if seen < least {
		t.Errorf("only %d of %s", seen, name)
	}
}

// defect is something wrong with an argument: what makes it wrong, the error, and the number beside this.
type defect[T any] struct {
	name   string
	do     func(x *T)
	errno  api.Errno
	number int
}

// notTold stands for the number of a function that tells none.
const notTold = -1

// isTold says whether a number and an error are those of a defect.
func (d defect[T]) isTold(n int, e api.Errno) bool {
	return (n == d.number || n == notTold) && e == d.errno
}

// wantDefects asks for the error of each defect, and for that of the first one wherever there are two. The defects stand
// in the order of their errors; done last, the first one of two stays.
func wantDefects[T any](t *testing.T, name string, right func() T, defects []defect[T], call func(x T) (int, api.Errno)) {
	t.Helper()
	asked := func(told defect[T], all ...defect[T]) {
		t.Helper()
		x := right()
		for _, d := range slices.Backward(all) {
			d.do(&x)
		}
		if n, e := call(x); !told.isTold(n, e) {
			t.Errorf("%s, %s, the first of %d: %d, %d; want %d, %d", name, told.name, len(all), n, e, told.number, told.errno)
		}
	}
	asked(defect[T]{name: "all right"})
	for i, first := range defects {
		asked(first, first)
		for _, second := range defects[i+1:] {
			asked(first, first, second)
		}
	}
}

// errorOf is a call that returns the error of a function, beside which its zero value must stand.
func errorOf[T, R any](t *testing.T, of func(x T) (R, api.Errno)) func(x T) (int, api.Errno) {
	return func(x T) (int, api.Errno) {
		got, e := of(x)
		wantNone[R](t, "beside an error")(got, e)
		return notTold, e
	}
}

// wantNone reports a result beside an error.
func wantNone[R any](t *testing.T, name string) func(got R, e api.Errno) {
	return func(got R, e api.Errno) {
		t.Helper()
		if e != api.OK && !reflect.ValueOf(&got).Elem().IsZero() {
			t.Fatalf("%s: %v beside the error %d", name, got, e)
		}
	}
}

// within returns the defects of a part of an argument.
func within[T, P any](name string, part func(x *T) *P, defects []defect[P]) []defect[T] {
	var l []defect[T]
	for _, d := range defects {
		l = append(l, defect[T]{name + ": " + d.name, func(x *T) { d.do(part(x)) }, d.errno, d.number})
	}
	return l
}

// numbered returns defects that are told with a number.
func numbered[T any](number int, defects []defect[T]) []defect[T] {
	l := slices.Clone(defects)
	for i := range l {
		l[i].number = number
	}
	return l
}

// beyond returns the defects of a number that is to be from least to most.
func beyond(least, most int) []defect[int] {
	var l []defect[int]
	for _, n := range []int{least - 1, most + 1, math.MinInt, math.MaxInt} {
		l = append(l, defect[int]{"beyond", func(x *int) { *x = n }, api.ErrRange, 0})
	}
	return l
}

// rangeDefects returns the defects of a range from least to most.
func rangeDefects(least, most int) []defect[api.Range] {
	return slices.Concat(
		within("Lo", func(r *api.Range) *int { return &r.Lo }, beyond(least, most)),
		within("Hi", func(r *api.Range) *int { return &r.Hi }, beyond(least, most)),
		[]defect[api.Range]{
			{"order", func(r *api.Range) { *r = span(least+1, least) }, api.ErrOrder, 0},
			{"order of the ends", func(r *api.Range) { *r = span(most, least) }, api.ErrOrder, 0},
		},
	)
}

func rateDefects() []defect[api.Range]    { return rangeDefects(1, 1000000) }
func secondsDefects() []defect[api.Range] { return rangeDefects(0, 100000) }

// draws returns numbers that are the same in every run.
func draws(seed uint64) *rand.Rand { return rand.New(rand.NewPCG(seed, 8)) }

// drawnBetween returns a number from lo to hi.
func drawnBetween(r *rand.Rand, lo, hi int) int { return lo + r.IntN(hi-lo+1) }

// drawnUpTo returns a number from least to most, small or great.
func drawnUpTo(r *rand.Rand, least, most int) int {
	switch r.IntN(8) {
	case 0:
		return least
	case 1:
		return most
	}
	return least + r.IntN(most-least+1)>>r.IntN(20)
}

// drawnRange returns a range between least and most, often of a single number.
func drawnRange(r *rand.Rand, least, most int) api.Range {
	a, b := drawnUpTo(r, least, most), drawnUpTo(r, least, most)
	if r.IntN(4) == 0 {
		b = a
	}
	return span(min(a, b), max(a, b))
}

func drawnRate(r *rand.Rand) api.Range    { return drawnRange(r, 1, 1000000) }
func drawnSeconds(r *rand.Rand) api.Range { return drawnRange(r, 0, 100000) }
