package glass

import (
	"etalon/api"
	"etalon/whole"
)

// allShare is the share of all, in ten-thousandths.
const allShare = 10000

// MixedBetween returns the enclosure of the index of a mixture of two, by the share of the first one.
func MixedBetween(a, b, share int) (api.Range, api.Errno) {
	if e := checkIndices(a, b); e != api.OK {
		return api.Range{}, e
	}
	if !whole.Within(share, 0, allShare) {
		return api.Range{}, api.ErrRange
	}
	rest := allShare - share
	// The root of a number rounded down is, rounded down itself, that of the number; likewise up.
	series := whole.Lower(allShare*a*a, b*b, share*b*b+rest*a*a)
	parallel := whole.Upper(share*a*a+rest*b*b, 1, allShare)
	return api.Range{Lo: whole.RootDown(series), Hi: whole.RootUp(parallel)}, api.OK
}

// ShareFor returns the share of the first index with which the mixture in parallel has an index.
func ShareFor(a, b, index int) (api.Range, api.Errno) {
	if e := checkIndices(a, b, index); e != api.OK {
		return api.Range{}, e
	}
	if a == b {
		return api.Range{}, api.ErrZero
	}
	if !whole.Within(index, min(a, b), max(a, b)) {
		return api.Range{}, api.ErrBreak
	}
	above, all := index*index-b*b, a*a-b*b
	if all < 0 {
		above, all = -above, -all
	}
	return ratio{allShare * above, all}.span(), api.OK
}

// checkIndices checks indices in any number.
func checkIndices(indices ...int) api.Errno {
	for _, n := range indices {
		if !whole.Within(n, api.LeastIndex, api.MaxIndex) {
			return api.ErrRange
		}
	}
	return api.OK
}
