package plant

import "etalon/api"

// named returns where in a list the first thing with a name is, nil if none has it.
func named[T any](l []T, name string, nameOf func(x T) string) *T {
	for i, x := range l {
		if nameOf(x) == name {
			return &l[i]
		}
	}
	return nil
}

// firstWrong checks things one by one, and returns the error of the first wrong one, with its number.
func firstWrong[T any](l []T, check func(i int, x T) api.Errno) (int, api.Errno) {
	for i, x := range l {
		if e := check(i, x); e != api.OK {
			return i, e
		}
	}
	return 0, api.OK
}
