package grow_test

import (
	"math"
	"slices"
	"testing"

	"etalon/api"
	"etalon/grow"
)

// growth is the arguments of Grown.
type growth struct{ rate, seconds api.Range }

// goal is the arguments of SecondsFor.
type goal struct {
	rate  api.Range
	thick int
}

// P8.1: Grown.
func TestGrown(t *testing.T) {
	for _, x := range []struct{ rate, seconds, want api.Range }{
		{span(500, 600), span(10, 11), span(5, 7)},
		{span(500, 600), span(0, 0), span(0, 0)},
		{span(1, 1), span(0, 1), span(0, 1)},
		{just(1000), just(7), just(7)},
		{just(999), just(1), span(0, 1)},
		{just(1001), just(1), span(1, 2)},
		{span(1, 1000000), span(0, 100000), span(0, 100000000)},
		{just(1000000), just(100000), just(100000000)},
		{just(1), just(100000), just(100)},
		{just(1), just(99999), span(99, 100)},
	} {
		got, e := grow.Grown(x.rate, x.seconds)
		wantSame(t, "Grown", got, e, x.want, api.OK)
	}
}

// P8.1: SecondsFor.
func TestSecondsFor(t *testing.T) {
	for _, x := range []struct {
		rate  api.Range
		thick int
		want  api.Range
	}{
		{span(500, 600), 6, span(10, 12)},
		{span(500, 600), 0, span(0, 0)},
		{span(1, 1000000), 0, span(0, 0)},
		{span(1, 1000000), 1, span(1, 1000)},
		{just(1000), 7, just(7)},
		{just(999), 1, just(2)},
		{just(1001), 1, just(1)},
		{just(1), 1000000, just(1000000000)},
		{just(1000000), 1000000, just(1000)},
		{span(999999, 1000000), 1000000, span(1000, 1001)},
	} {
		got, e := grow.SecondsFor(x.rate, x.thick)
		wantSame(t, "SecondsFor", got, e, x.want, api.OK)
	}
}

// P8.1: the errors of rates, of seconds and of thicknesses.
func TestRateDefects(t *testing.T) {
	wantDefects(t, "Grown", func() growth { return growth{span(1, 1000000), span(0, 100000)} }, slices.Concat(
		within("rate", func(x *growth) *api.Range { return &x.rate }, rateDefects()),
		within("seconds", func(x *growth) *api.Range { return &x.seconds }, secondsDefects()),
	), errorOf(t, func(x growth) (api.Range, api.Errno) { return grow.Grown(x.rate, x.seconds) }))
	for _, thick := range []int{0, 1000000} {
		wantDefects(t, "SecondsFor", func() goal { return goal{span(1, 1000000), thick} }, slices.Concat(
			within("rate", func(x *goal) *api.Range { return &x.rate }, rateDefects()),
			within("thick", func(x *goal) *int { return &x.thick }, beyond(0, 1000000)),
		), errorOf(t, func(x goal) (api.Range, api.Errno) { return grow.SecondsFor(x.rate, x.thick) }))
	}
	// The size of both ends stands ahead of their order.
	for _, rate := range []api.Range{span(5, 0), span(0, -1), span(1000001, 1), span(math.MaxInt, math.MinInt)} {
		got, e := grow.Grown(rate, just(1))
		wantSame(t, "the order of a rate beyond", got, e, api.Range{}, api.ErrRange)
	}
	for _, seconds := range []api.Range{span(5, -1), span(-1, -2), span(100001, 0), span(math.MaxInt, math.MinInt)} {
		got, e := grow.Grown(just(1), seconds)
		wantSame(t, "the order of seconds beyond", got, e, api.Range{}, api.ErrRange)
	}
}

// P8.1: both are those of fractions of any size.
func TestRatesAgain(t *testing.T) {
	r := draws(10)
	for range 30000 {
		rate, seconds, thick := drawnRate(r), drawnSeconds(r), drawnUpTo(r, 0, 1000000)
		want := span(floor(by(times(rate.Lo, seconds.Lo), rat(1000))), ceil(by(times(rate.Hi, seconds.Hi), rat(1000))))
		got, e := grow.Grown(rate, seconds)
		wantSame(t, "Grown", got, e, want, api.OK)
		want = span(ceil(by(times(1000, thick), rat(rate.Hi))), ceil(by(times(1000, thick), rat(rate.Lo))))
		got, e = grow.SecondsFor(rate, thick)
		wantSame(t, "SecondsFor", got, e, want, api.OK)
	}
}

// P8.12: the second of SecondsFor is the first one at which Grown reaches a thickness; ahead of the first one no layer
// has it.
func TestFirstSecond(t *testing.T) {
	r := draws(11)
	seen := 0
	for range 60000 {
		rate, thick := drawnRate(r), drawnUpTo(r, 0, 1000000)
		seconds := must[api.Range](t)(grow.SecondsFor(rate, thick))
		if rate.Hi*seconds.Lo < 1000*thick || seconds.Lo > 0 && rate.Hi*(seconds.Lo-1) >= 1000*thick {
			t.Fatalf("%v, %d: %v", rate, thick, seconds)
		}
		if seconds.Hi > 100000 {
			continue
		}
		seen++
		if must[api.Range](t)(grow.Grown(rate, just(seconds.Hi))).Lo < thick {
			t.Fatalf("%v, %d: not yet at %v", rate, thick, seconds)
		}
		if seconds.Hi > 0 && must[api.Range](t)(grow.Grown(rate, just(seconds.Hi-1))).Lo >= thick {
			t.Fatalf("%v, %d: ahead of %v", rate, thick, seconds)
		}
	}
	wantSeen(t, "seconds", seen, 20000)
}
