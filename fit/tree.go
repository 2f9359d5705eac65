package fit

import (
	"slices"
	"strconv"
	"strings"

	"etalon/api"
	"etalon/text"
)

const (
	blank      = " "
	mostDigits = 4 // digits of numbers in texts of trees
)

// leaves goes through a tree of a task, and tells of each leaf, until there is an error.
func leaves(t api.FitTask, tree []int, leaf func(place int, boxes []api.LayerBox)) api.Errno {
	if _, e := CheckTask(t); e != api.OK {
		return e
	}
	if len(tree) > api.MaxFitNodes {
		return api.ErrLarge
	}
	place, errno := 0, api.OK
	search{FitTask: t}.walk(func(s search) (int, bool) {
		if place == len(tree) {
			errno = api.ErrShape
			return 0, false
		}
		n := tree[place]
		if errno = s.check(n); errno != api.OK {
			return 0, false
		}
		if n < 0 {
			leaf(place, s.Boxes)
		}
		place++
		return n, true
	})
	if errno == api.OK && place < len(tree) {
		errno = api.ErrShape
	}
	return errno
}

// check returns the error of a number of a tree for the boxes.
func (s search) check(n int) api.Errno {
	if n == leafKept {
		return api.OK
	}
	if n >= 0 {
		return checkCut(s.Boxes, n)
	}
	reading := leafRefuted - n
	if reading >= len(s.Readings) {
		return api.ErrMissing
	}
	if s.answerTo(reading) != api.AnswerNo {
		return api.ErrProof
	}
	return api.OK
}

// CheckTree accepts a tree of a task, and returns how many of its leaves are kept, and how many refuted.
func CheckTree(t api.FitTask, tree []int) (int, int, api.Errno) {
	kept, refuted := 0, 0
	e := leaves(t, tree, func(place int, _ []api.LayerBox) {
		if tree[place] == leafKept {
			kept++
		} else {
			refuted++
		}
	})
	if e != api.OK {
		return 0, 0, e
	}
	return kept, refuted, api.OK
}

// Kept returns the boxes of the leaves that are kept.
func Kept(t api.FitTask, tree []int) ([][]api.LayerBox, api.Errno) {
	var kept [][]api.LayerBox
	e := leaves(t, tree, func(place int, boxes []api.LayerBox) {
		if tree[place] == leafKept {
			// A tree without a cut has the boxes of the task itself.
			kept = append(kept, slices.Clone(boxes))
		}
	})
	if e != api.OK {
		return nil, e
	}
	return kept, api.OK
}

// Where returns the place of the leaf in whose boxes layers lie.
func Where(t api.FitTask, tree []int, layers []api.Layer) (int, api.Errno) {
	at, there := 0, false
	e := leaves(t, tree, func(place int, boxes []api.LayerBox) {
		if has(boxes, layers) {
			at, there = place, true
		}
	})
	if e != api.OK {
		return 0, e
	}
	if !there {
		return 0, api.ErrNone
	}
	return at, api.OK
}

// FormatTree returns the text of a tree, also of a wrong one.
func FormatTree(tree []int) string {
	var words []string
	for _, n := range tree {
		words = append(words, strconv.Itoa(n))
	}
	return strings.Join(words, blank)
}

// ParseTree returns the numbers of a text of a tree.
func ParseTree(s string) ([]int, api.Errno) {
	if s == "" {
		return nil, api.OK
	}
	var tree []int
	for word := range strings.SplitSeq(s, blank) {
		n, ok := text.Number(word, mostDigits)
		if !ok {
			return nil, api.ErrSyntax
		}
		// Of too many numbers one more is kept, since a word behind them may be wrong.
		if len(tree) <= api.MaxFitNodes {
			tree = append(tree, n)
		}
	}
	if len(tree) > api.MaxFitNodes {
		return nil, api.ErrLarge
	}
	return tree, api.OK
}
