package fit_test

import (
	"math"
	"slices"
	"strings"
	"testing"

	"etalon/api"
	"etalon/fit"
)

// P7.5: FormatTree writes any tree.
func TestFormatTree(t *testing.T) {
	for _, x := range []struct {
		tree []int
		want string
	}{
		{nil, ""},
		{[]int{}, ""},
		{[]int{-1}, "-1"},
		{[]int{0}, "0"},
		{[]int{1, -1, -1}, "1 -1 -1"},
		{[]int{11, -21, -2, 0}, "11 -21 -2 0"},
		{[]int{math.MinInt, math.MaxInt}, "-9223372036854775808 9223372036854775807"},
		{slices.Repeat([]int{-1}, 3000), strings.Repeat("-1 ", 2999) + "-1"},
	} {
		if got := fit.FormatTree(x.tree); got != x.want {
			t.Errorf("%.80q; want %.80q", got, x.want)
		}
	}
}

// P7.5: ParseTree.
func TestParseTree(t *testing.T) {
	for _, x := range []struct {
		s     string
		want  []int
		errno api.Errno
	}{
		{"", nil, api.OK},
		{"-1", []int{-1}, api.OK},
		{"0", []int{0}, api.OK},
		{"1 -1 -1", []int{1, -1, -1}, api.OK},
		{"9999 -9999 1000 -1000", []int{9999, -9999, 1000, -1000}, api.OK},
		{strings.Repeat("9999 ", 1999) + "-9999", append(slices.Repeat([]int{9999}, 1999), -9999), api.OK},
		{strings.Repeat("1 ", 2000) + "1", nil, api.ErrLarge},
		{strings.Repeat("-9999 ", 90000) + "0", nil, api.ErrLarge},
		// What is no text is told first, wherever it stands.
		{strings.Repeat("1 ", 2000), nil, api.ErrSyntax},
		{strings.Repeat("1 ", 2001), nil, api.ErrSyntax},
		{strings.Repeat("1 ", 2001) + "01", nil, api.ErrSyntax},
		{strings.Repeat("1 ", 5000) + "10000", nil, api.ErrSyntax},
	} {
		got, e := fit.ParseTree(x.s)
		wantSame(t, x.s[:min(len(x.s), 80)], got, e, x.want, x.errno)
	}
	words := []string{
		"10000", "-10000", "00000", "99999999999999999999", "00", "01", "-01", "0001", "-0", "+1", "--1", "-", "1-", "1.0", "1e3", "0x1", "1_0", "a", "٣", "1\n", "\t1", "1,", "\x00", "",
	}
	for _, word := range words {
		for _, s := range []string{word, "1 " + word, word + " -1", "1 " + word + " -1", "1  -1", " 1", "1 ", " "} {
			if s == "" {
				continue
			}
			got, e := fit.ParseTree(s)
			wantSame(t, s, got, e, nil, api.ErrSyntax)
		}
	}
}

// P7.11: ParseTree undoes FormatTree of right trees.
func TestParseTreeUndoes(t *testing.T) {
	trees := [][]int{bookSearch(many(1000), 12), {-21}, slices.Repeat([]int{11}, 2000)}
	for i := range 300 {
		x, depth, _ := drawnSearch(20000 + i)
		trees = append(trees, must[[]int](t)(fit.Search(x, depth)))
	}
	for _, tree := range trees {
		got, e := fit.ParseTree(fit.FormatTree(tree))
		wantSame(t, "a tree", got, e, tree, api.OK)
	}
	r := draws(73)
	for range 3000 {
		var tree []int
		for range 1 + r.IntN(50) {
			tree = append(tree, r.IntN(19999)-9999)
		}
		s := fit.FormatTree(tree)
		got, e := fit.ParseTree(s)
		wantSame(t, s, got, e, tree, api.OK)
	}
}
