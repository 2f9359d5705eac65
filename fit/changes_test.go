package fit_test

import (
	"math"
	"math/big"
	"math/rand/v2"
	"slices"
	"testing"

	"etalon/api"
	"etalon/fit"
)

// changes is the arguments of SmallChange and Misses.
type changes struct {
	rows   [][2]int
	values []int
}

func rightChanges() changes { return changes{[][2]int{{1, 0}, {0, 1}, {1, 1}}, []int{1, 2, 4}} }

// frac returns a fraction.
func frac(num, den int) api.Frac { return api.Frac{Num: num, Den: den} }

// changeDefects returns the defects of three rows.
func changeDefects() []defect[changes] {
	l := []defect[changes]{
		{"no rows", func(x *changes) { x.rows, x.values = nil, nil }, api.ErrShape, 0},
		{"no rows but values", func(x *changes) { x.rows = nil }, api.ErrShape, 0},
		{"no values", func(x *changes) { x.values = []int{} }, api.ErrShape, 0},
		{"a value less", func(x *changes) { x.values = []int{1, 2} }, api.ErrShape, 0},
		{"a value more", func(x *changes) { x.values = make([]int, len(x.rows)+1) }, api.ErrShape, 0},
		{"21 rows and a value less", func(x *changes) { x.rows, x.values = make([][2]int, 21), make([]int, 20) }, api.ErrShape, 0},
		{"21 rows", func(x *changes) { x.rows, x.values = make([][2]int, 21), make([]int, 21) }, api.ErrLarge, 0},
		{"21 rows beyond", func(x *changes) { x.rows, x.values = slices.Repeat([][2]int{{9999, 0}}, 21), make([]int, 21) }, api.ErrLarge, 0},
	}
	for i := range 3 {
		l = slices.Concat(l,
			within("a first number", func(x *changes) *int { return &x.rows[i][0] }, beyond(-1000, 1000)),
			within("a second number", func(x *changes) *int { return &x.rows[i][1] }, beyond(-1000, 1000)),
			within("a value", func(x *changes) *int { return &x.values[i] }, beyond(-1000, 1000)),
		)
	}
	return append(l, defect[changes]{"no rank", func(x *changes) { x.rows[0], x.rows[1], x.rows[2] = [2]int{1, 2}, [2]int{2, 4}, [2]int{-3, -6} }, api.ErrRank, 0})
}

// P7.7: the errors of small changes, each alone and beside each later one.
func TestErrorsOfChanges(t *testing.T) {
	wantDefects(t, "SmallChange", rightChanges, changeDefects(), errorOf(t, func(x changes) ([2]api.Frac, api.Errno) { return fit.SmallChange(x.rows, x.values) }))
	wantDefects(t, "Misses", rightChanges, changeDefects(), errorOf(t, func(x changes) ([]api.Frac, api.Errno) { return fit.Misses(x.rows, x.values) }))
}

// P7.7: the chapter's fifth example and others; rows of which several fits are best.
func TestChanges(t *testing.T) {
	none := [2]api.Frac{}
	for _, x := range []struct {
		name   string
		x      changes
		want   [2]api.Frac
		errno  api.Errno
		misses []api.Frac
		of     api.Errno
	}{
		{"the chapter's example", rightChanges(), [2]api.Frac{frac(4, 3), frac(7, 3)}, api.OK, []api.Frac{frac(-1, 3), frac(-1, 3), frac(1, 3)}, api.OK},
		{"two rows", changes{[][2]int{{2, 1}, {1, 3}}, []int{1, 1}}, [2]api.Frac{frac(2, 5), frac(1, 5)}, api.OK, []api.Frac{frac(0, 1), frac(0, 1)}, api.OK},
		{"no change", changes{[][2]int{{2, 1}, {1, 3}}, []int{0, 0}}, [2]api.Frac{frac(0, 1), frac(0, 1)}, api.OK, []api.Frac{frac(0, 1), frac(0, 1)}, api.OK},
		{"numbers below 0", changes{[][2]int{{-2, 0}, {0, -3}}, []int{1, 1}}, [2]api.Frac{frac(-1, 2), frac(-1, 3)}, api.OK, []api.Frac{frac(0, 1), frac(0, 1)}, api.OK},
		{"the greatest numbers", changes{slices.Repeat([][2]int{{1000, 1000}, {1000, -1000}}, 10), slices.Repeat([]int{1000, -1000}, 10)},
			[2]api.Frac{frac(0, 1), frac(1, 1)}, api.OK, slices.Repeat([]api.Frac{frac(0, 1)}, 20), api.OK},
		{"the least numbers", changes{slices.Repeat([][2]int{{-1000, 1000}, {-1000, -1000}}, 10), slices.Repeat([]int{1000, 1000}, 10)},
			[2]api.Frac{frac(-1, 1), frac(0, 1)}, api.OK, slices.Repeat([]api.Frac{frac(0, 1)}, 20), api.OK},
		{"one row", changes{[][2]int{{1, 0}}, []int{1}}, none, api.ErrRank, nil, api.ErrRank},
		{"one row of zeros", changes{[][2]int{{0, 0}}, []int{0}}, none, api.ErrRank, nil, api.ErrRank},
		{"no first numbers", changes{[][2]int{{0, 1}, {0, 5}}, []int{1, 2}}, none, api.ErrRank, nil, api.ErrRank},
		{"no second numbers", changes{[][2]int{{1, 0}, {5, 0}}, []int{1, 2}}, none, api.ErrRank, nil, api.ErrRank},
		{"rows along one line", changes{[][2]int{{3, -6}, {-1, 2}, {0, 0}, {500, -1000}}, []int{1, 2, 3, 4}}, none, api.ErrRank, nil, api.ErrRank},
		{"rows nearly along one line", changes{[][2]int{{999, 1000}, {998, 999}}, []int{1, 0}}, [2]api.Frac{frac(999, 1), frac(-998, 1)}, api.OK, []api.Frac{frac(0, 1), frac(0, 1)}, api.OK},
		// The columns are orthogonal, so each number of the fit has a denominator of its own; the misses have both.
		{"a small fit with large misses", changes{[][2]int{{997, 991}, {991, -997}, {1, 0}}, []int{1, 2, 4}},
			[2]api.Frac{frac(2983, 1976091), frac(-1003, 1976090)}, api.OK, nil, api.ErrLarge},
		{"a large fit with small misses", changes{[][2]int{{-930, -10}, {100, 550}, {950, 960}}, []int{0, 7, 4}},
			none, api.ErrLarge, []api.Frac{frac(-176617915, 122273139), frac(365783363, 122273139), frac(-211403155, 122273139)}, api.OK},
		{"a large fit with large misses", changes{[][2]int{{997, 991}, {991, 1000}, {-83, 519}}, []int{997, 5, 311}}, none, api.ErrLarge, nil, api.ErrLarge},
	} {
		got, e := fit.SmallChange(x.x.rows, x.x.values)
		wantSame(t, x.name, got, e, x.want, x.errno)
		misses, e := fit.Misses(x.x.rows, x.x.values)
		wantSame(t, x.name+": Misses", misses, e, x.misses, x.of)
	}
}

// drawnChanges returns right rows of any size, some of which are multiples of a number, or nearly dependent.
func drawnChanges(r *rand.Rand) changes {
	var x changes
	most := min(1<<r.IntN(11), 1000)
	step, rows, values := 1+r.IntN(most)*r.IntN(2), 1+r.IntN(1+r.IntN(20)), 1000
	if r.IntN(10) == 0 {
		// Of such rows the misses are small, and the fit is not, often.
		most, step, rows, values = 1000, 7+r.IntN(4), 3, 9
	}
	number := func() int { return (r.IntN(2*(most/step)+1) - most/step) * step }
	for range rows {
		row := [2]int{number(), number()}
		if r.IntN(3) == 0 && len(x.rows) > 0 {
			row = x.rows[0]
		}
		x.rows, x.values = append(x.rows, row), append(x.values, r.IntN(2*values+1)-values)
	}
	return x
}

// P7.7: fits and misses by the book, each one with its own ErrLarge.
func TestChangesByTheBook(t *testing.T) {
	r := draws(70)
	seen := map[[2]api.Errno]int{}
	for range 15000 {
		x := drawnChanges(r)
		want, errno := bookSmallChange(x.rows, x.values)
		got, e := fit.SmallChange(x.rows, x.values)
		wantSame(t, "a fit", got, e, want, errno)
		misses, f := bookMisses(x.rows, x.values)
		all, e := fit.Misses(x.rows, x.values)
		wantSame(t, "misses", all, e, misses, f)
		seen[[2]api.Errno{errno, f}]++
	}
	t.Log(seen)
	for _, both := range [][2]api.Errno{{}, {api.ErrRank, api.ErrRank}, {api.ErrLarge, api.ErrLarge}, {api.ErrLarge, api.OK}, {api.OK, api.ErrLarge}} {
		wantSeen(t, "a pair of errors", seen[both], 20)
	}
}

// P7.11: the misses are orthogonal to both columns, and no other fit has a lesser sum of squares.
func TestLeastSquares(t *testing.T) {
	r := draws(71)
	seen := 0
	for range 10000 {
		x := drawnChanges(r)
		misses, e := fit.Misses(x.rows, x.values)
		if e != api.OK {
			continue
		}
		seen++
		for column := range 2 {
			sum := rat(0)
			for i, miss := range misses {
				sum = plus(sum, times(big.NewRat(int64(miss.Num), int64(miss.Den)), rat(x.rows[i][column])))
			}
			if sum.Sign() != 0 {
				t.Fatalf("%v: %v times the column %d: %v", x, misses, column, sum)
			}
		}
		both, e := fit.SmallChange(x.rows, x.values)
		if e != api.OK {
			continue
		}
		least := squares(x, both[0], both[1])
		for _, d := range [][2]int{{1, 0}, {-1, 0}, {0, 1}, {0, -1}, {1, 1}, {-1, 1}, {r.IntN(19) - 9, r.IntN(19) - 9}} {
			a, b := both[0], both[1]
			a.Num, b.Num = a.Num+d[0], b.Num+d[1]
			if d != [2]int{} && squares(x, a, b).Cmp(least) <= 0 {
				t.Fatalf("%v: %v, %v is no worse than %v", x, a, b, both)
			}
		}
	}
	wantSeen(t, "fits", seen, 5000)
}

// squares returns the sum of the squares of values less a times the first, and b times the second number.
func squares(x changes, a, b api.Frac) *big.Rat {
	sum := rat(0)
	for i, row := range x.rows {
		miss := minus(rat(x.values[i]), plus(times(big.NewRat(int64(a.Num), int64(a.Den)), rat(row[0])), times(big.NewRat(int64(b.Num), int64(b.Den)), rat(row[1]))))
		sum = plus(sum, times(miss, miss))
	}
	return sum
}

// P7.7: fractions just at the limit, and just beyond: the greatest numbers that are small, and the least that are not.
func TestSmallFractions(t *testing.T) {
	greatest, least := 0, math.MaxInt
	r := draws(72)
	for range 30000 {
		var x changes
		for range 3 {
			x.rows, x.values = append(x.rows, [2]int{r.IntN(2001) - 1000, r.IntN(301) - 150}), append(x.values, r.IntN(2001)-1000)
		}
		a, b, ok := bookFit(x.rows, x.values)
		if !ok {
			continue
		}
		size := 0
		for _, n := range []*big.Int{a.Num(), a.Denom(), b.Num(), b.Denom()} {
			size = max(size, int(new(big.Int).Abs(n).Int64()))
		}
		if size <= 1000000000 {
			greatest = max(greatest, size)
		} else {
			least = min(least, size)
		}
		want, errno := bookSmallChange(x.rows, x.values)
		got, e := fit.SmallChange(x.rows, x.values)
		wantSame(t, "a fit", got, e, want, errno)
	}
	t.Log(greatest, least)
	if greatest < 998000000 || least > 1002000000 {
		t.Errorf("%d, %d", greatest, least)
	}
}
