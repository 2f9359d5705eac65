package plant

import (
	"slices"

	"etalon/api"
	"etalon/whole"
)

// mostParents is how many versions a version may be made from.
const mostParents = 2

// hasVersion says whether a number, from 1 on, is that of one of versions.
func hasVersion(l []api.PlantVersion, number int) bool {
	return whole.Within(number, 1, len(l))
}

// CheckVersions returns the first error of versions, with the number of the version in the list.
func CheckVersions(l []api.PlantVersion) (int, api.Errno) {
	if len(l) > api.MaxPlantVersions {
		return 0, api.ErrLarge
	}
	return firstWrong(l, func(i int, v api.PlantVersion) api.Errno { return checkParents(l[:i], v.Parents) })
}

// checkParents checks the parents of a version behind earlier ones.
func checkParents(earlier []api.PlantVersion, parents []int) api.Errno {
	if len(earlier) == 0 {
		if len(parents) > 0 {
			return api.ErrShape
		}
		return api.OK
	}
	if !whole.Within(len(parents), 1, mostParents) {
		return api.ErrShape
	}
	if slices.ContainsFunc(parents, func(n int) bool { return !hasVersion(earlier, n) }) {
		return api.ErrMissing
	}
	if len(parents) == mostParents && parents[0] == parents[1] {
		return api.ErrDouble
	}
	return api.OK
}

// CommonVersion returns the common version of two versions.
func CommonVersion(l []api.PlantVersion, a, b int) (int, api.Errno) {
	if _, e := CheckVersions(l); e != api.OK {
		return 0, e
	}
	if !hasVersion(l, a) || !hasVersion(l, b) {
		return 0, api.ErrMissing
	}
	return common(l, a, b), api.OK
}

// common returns the common version of two versions that there are. The first version is an ancestor of all others.
func common(l []api.PlantVersion, a, b int) int {
	ofA, ofB := ancestors(l, a), ancestors(l, b)
	number := min(a, b)
	for !ofA[number] || !ofB[number] {
		number--
	}
	return number
}

// ancestors returns the numbers of the ancestors of a version.
func ancestors(l []api.PlantVersion, number int) map[int]bool {
	all := map[int]bool{number: true}
	// Parents are earlier versions, so that none is added behind the place where it is looked for.
	for n := number; n > 0; n-- {
		if !all[n] {
			continue
		}
		for _, parent := range l[n-1].Parents {
			all[parent] = true
		}
	}
	return all
}

// MergedLayers returns the merged layers of two lists with their base. Beside ErrClash it returns the number of the first
// layer that clashes.
func MergedLayers(base, a, b []api.StackLayer) ([]api.StackLayer, int, api.Errno) {
	if max(len(base), len(a), len(b)) > api.MaxLayers {
		return nil, 0, api.ErrLarge
	}
	switch {
	case slices.Equal(a, base):
		return slices.Clone(b), 0, api.OK
	case slices.Equal(b, base) || slices.Equal(b, a):
		return slices.Clone(a), 0, api.OK
	case len(a) != len(base) || len(b) != len(base):
		return nil, 0, api.ErrClash
	}
	merged := slices.Clone(a)
	for i, layer := range base {
		switch {
		case a[i] == layer:
			merged[i] = b[i]
		case b[i] != layer && b[i] != a[i]:
			return nil, i, api.ErrClash
		}
	}
	return merged, 0, api.OK
}
