package whole

import (
	"math"
	"testing"

	"etalon/api"
)

// A float is whole if it is a whole number, however great it is.
func TestIsWhole(t *testing.T) {
	for _, x := range []float64{0, math.Copysign(0, -1), 1, -1, 1 << 60, -(1 << 60), math.MaxFloat64} {
		if !IsWhole(x) {
			t.Errorf("%v is whole", x)
		}
	}
	for _, x := range []float64{0.5, -0.5, math.SmallestNonzeroFloat64, 1<<52 - 0.5, math.NaN(), math.Inf(1), math.Inf(-1)} {
		if IsWhole(x) {
			t.Errorf("%v is not whole", x)
		}
	}
}

// Both parts must be whole, and then both at most so great.
func TestCheckParts(t *testing.T) {
	for _, x := range []struct {
		z    complex128
		want api.Errno
	}{
		{0, api.OK}, {complex(math.Copysign(0, -1), 0), api.OK}, {3 - 3i, api.OK}, {-3 + 3i, api.OK},
		{4, api.ErrRange}, {-4, api.ErrRange}, {4i, api.ErrRange}, {-4i, api.ErrRange}, {math.MaxFloat64, api.ErrRange},
		{0.5, api.ErrWhole}, {0.5i, api.ErrWhole}, {4 + 0.5i, api.ErrWhole}, {0.5 + 4i, api.ErrWhole},
		{complex(math.NaN(), 4), api.ErrWhole}, {complex(4, math.Inf(1)), api.ErrWhole},
	} {
		if e := CheckParts(x.z, 3); e != x.want {
			t.Errorf("%v: %d; want %d", x.z, e, x.want)
		}
	}
}

// Parts make the number again, but for -0.
func TestParts(t *testing.T) {
	const most = 1 << 53
	for _, z := range []complex128{0, 1 - 2i, -7i, most - most*1i, 1 - most + 1i} {
		if again := Complex(Parts(z)[0], Parts(z)[1]); again != z {
			t.Errorf("%v: %v", z, again)
		}
	}
	minus := math.Copysign(0, -1)
	if z := Complex(Parts(complex(minus, minus))[0], Parts(complex(minus, minus))[1]); math.Signbit(real(z)) || math.Signbit(imag(z)) {
		t.Errorf("-0 in %v", z)
	}
}
