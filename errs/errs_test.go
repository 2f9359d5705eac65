package errs_test

import (
	"testing"

	"etalon/api"
	"etalon/errs"
)

// The first error decides, whatever stands behind it.
func TestFirst(t *testing.T) {
	for _, x := range []struct {
		want   api.Errno
		errors []api.Errno
	}{
		{api.OK, nil}, {api.OK, []api.Errno{api.OK, api.OK}}, {api.ErrZero, []api.Errno{api.ErrZero}},
		{api.ErrZero, []api.Errno{api.OK, api.ErrZero, api.ErrRange}}, {api.ErrRange, []api.Errno{api.ErrRange, api.OK, api.ErrNil}},
	} {
		if e := errs.First(x.errors...); e != x.want {
			t.Errorf("%v: %d", x.errors, e)
		}
	}
}
