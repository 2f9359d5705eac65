// Package errs chooses among errors. Several chapters use it.
package errs

import "etalon/api"

// First returns the first of errors that is one.
func First(errors ...api.Errno) api.Errno {
	for _, e := range errors {
		if e != api.OK {
			return e
		}
	}
	return api.OK
}
