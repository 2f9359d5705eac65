package rack_test

import (
	"math"
	"math/rand/v2"
	"reflect"
	"slices"
	"testing"

	"etalon/api"
)

// must returns a result that has no error.
func must[T any](t *testing.T) func(x T, e api.Errno) T {
	return func(x T, e api.Errno) T {
		t.Helper()
		if e != api.OK {
			t.Fatalf("the error %d", e)
		}
		return x
	}
}

// same says whether results are the same; nil and empty lists are.
func same[T any](a, b T) bool {
	x, y := reflect.ValueOf(a), reflect.ValueOf(b)
	if x.IsValid() && x.Kind() == reflect.Slice && x.Len() == 0 && y.Len() == 0 {
		return true
	}
	return reflect.DeepEqual(a, b)
}

// wantSame reports a result or an error that is not the expected one.
func wantSame[T any](t *testing.T, name string, got T, e api.Errno, want T, errno api.Errno) {
	t.Helper()
	if !same(got, want) || e != errno {
		t.Errorf("%s: %v, %d; want %v, %d", name, got, e, want, errno)
	}
}

// wantSeen reports that too few results were looked at.
func wantSeen(t *testing.T, name string, seen, least int) {
	t.Helper()
	if seen < least {
		t.Errorf("only %d of %s", seen, name)
	}
}

// defect is something wrong with an argument: what makes it wrong, the error, and the number beside this.
type defect[T any] struct {
	name   string
	do     func(x *T)
	errno  api.Errno
	number int
}

// notTold stands for the number of a function that tells none.
const notTold = -1

// isTold says whether a number and an error are those of a defect.
func (d defect[T]) isTold(n int, e api.Errno) bool {
	return (n == d.number || n == notTold) && e == d.errno
}

// wantDefects asks for the error of each defect, and for that of the first one wherever there are two. The defects stand
// in the order of their errors; done last, the first one of two stays.
func wantDefects[T any](t *testing.T, name string, right func() T, defects []defect[T], call func(x T) (int, api.Errno)) {
	t.Helper()
	asked := func(told defect[T], all ...defect[T]) {
		t.Helper()
		x := right()
		for _, d := range slices.Backward(all) {
			d.do(&x)
		}
		if n, e := call(x); !told.isTold(n, e) {
			t.Errorf("%s, %s, the first of %d: %d, %d; want %d, %d", name, told.name, len(all), n, e, told.number, told.errno)
		}
	}
	asked(defect[T]{name: "all right"})
	for i, first := range defects {
		asked(first, first)
		for _, second := range defects[i+1:] {
			asked(first, first, second)
		}
	}
}

// errorOf is a call that returns the error of a function, beside which its zero value must stand.
func errorOf[T, R any](t *testing.T, of func(x T) (R, api.Errno)) func(x T) (int, api.Errno) {
	return func(x T) (int, api.Errno) {
		got, e := of(x)
		wantNone[R](t, "beside an error")(got, e)
		return notTold, e
	}
}

// wantNone reports a result beside an error.
func wantNone[R any](t *testing.T, name string) func(got R, e api.Errno) {
	return func(got R, e api.Errno) {
		t.Helper()
		if e != api.OK && !reflect.ValueOf(&got).Elem().IsZero() {
			t.Fatalf("%s: %v beside the error %d", name, got, e)
		}
	}
}

// within returns the defects of a part of an argument.
func within[T, P any](name string, part func(x *T) *P, defects []defect[P]) []defect[T] {
	var l []defect[T]
	for _, d := range defects {
		l = append(l, defect[T]{name + ": " + d.name, func(x *T) { d.do(part(x)) }, d.errno, d.number})
	}
	return l
}

// beyond returns the defects of a number that is to be from least to most.
func beyond(least, most int, e api.Errno) []defect[int] {
	var l []defect[int]
	for _, n := range []int{least - 1, most + 1, math.MinInt, math.MaxInt} {
		l = append(l, defect[int]{"beyond", func(x *int) { *x = n }, e, 0})
	}
	return l
}

// lengthDefects returns the defects of a list that is to have so many elements.
func lengthDefects[E any](length int) []defect[[]E] {
	var l []defect[[]E]
	for _, n := range []int{0, 1, length - 1, length + 1, 5000} {
		if n == length {
			continue
		}
		// What is there stays, as far as there is room for it.
		l = append(l, defect[[]E]{"a wrong length", func(x *[]E) { *x = append((*x)[:min(n, len(*x)):min(n, len(*x))], make([]E, max(0, n-len(*x)))...) }, api.ErrShape, 0})
	}
	return append(l, defect[[]E]{"nil", func(x *[]E) { *x = nil }, api.ErrShape, 0})
}

// numberDefects returns the defects of the numbers of a list that are to be from least to most.
func numberDefects(length, least, most int) []defect[[]int] {
	var l []defect[[]int]
	for i := range length {
		l = append(l, within("a number", func(x *[]int) *int { return &(*x)[i] }, beyond(least, most, api.ErrRange))...)
	}
	return l
}

// tableDefects returns the defects of a table, row by row: wrong lengths (only behind the first row, if this tells the
// length), numbers beyond 0 to most.
func tableDefects(rows, numbers, most int, firstTells bool) []defect[[][]int] {
	var l []defect[[][]int]
	for i := range rows {
		row := func(x *[][]int) *[]int { return &(*x)[i] }
		if i > 0 || !firstTells {
			l = append(l, within("a row", row, lengthDefects[int](numbers))...)
		}
		l = append(l, within("a row", row, numberDefects(numbers, 0, most))...)
	}
	return l
}

// copied returns a table of its own.
func copied(table [][]int) [][]int {
	var all [][]int
	for _, row := range table {
		all = append(all, slices.Clone(row))
	}
	return all
}

// draws returns numbers that are the same in every run.
func draws(seed uint64) *rand.Rand { return rand.New(rand.NewPCG(seed, 9)) }

// drawnUpTo returns a number from least to most, small or great.
func drawnUpTo(r *rand.Rand, least, most int) int {
	switch r.IntN(8) {
	case 0:
		return least
	case 1:
		return most
	}
	return least + r.IntN(most-least+1)>>r.IntN(20)
}

// drawnTable returns a table of numbers from 0 to most.
func drawnTable(r *rand.Rand, rows, numbers, most int) [][]int {
	table := make([][]int, rows)
	for i := range table {
		for range numbers {
			table[i] = append(table[i], r.IntN(most+1))
		}
	}
	return table
}
