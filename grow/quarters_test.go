package grow_test

import (
	"math/rand/v2"
	"slices"
	"testing"

	"etalon/api"
	"etalon/grow"
)

// quarters returns quarters.
func quarters(index, wave, order int) api.GrowQuarter {
	return api.GrowQuarter{Index: index, Wave: wave, Order: order}
}

// passed is the arguments of EndAt, and but for the rate of RateOf.
type passed struct {
	q             api.GrowQuarter
	rate, seconds api.Range
}

func quarterDefects() []defect[api.GrowQuarter] {
	return slices.Concat(
		within("Index", func(q *api.GrowQuarter) *int { return &q.Index }, beyond(5000, 80000)),
		within("Wave", func(q *api.GrowQuarter) *int { return &q.Wave }, beyond(1000, 200000)),
		within("Order", func(q *api.GrowQuarter) *int { return &q.Order }, beyond(1, 200)),
	)
}

func drawnQuarters(r *rand.Rand) api.GrowQuarter {
	return quarters(drawnUpTo(r, 5000, 80000), drawnUpTo(r, 1000, 200000), drawnUpTo(r, 1, 200))
}

// P8.3: QuarterThick.
func TestQuarterThick(t *testing.T) {
	for q, want := range map[api.GrowQuarter]api.Range{
		quarters(20000, 5000, 1):    just(625),
		quarters(15000, 5000, 1):    span(833, 834),
		quarters(15000, 5000, 3):    just(2500),
		quarters(80000, 1000, 1):    span(31, 32),
		quarters(5000, 200000, 200): just(20000000),
		quarters(5000, 1000, 1):     just(500),
		quarters(80000, 200000, 1):  just(6250),
		quarters(79999, 1000, 1):    span(31, 32),
	} {
		got, e := grow.QuarterThick(q)
		wantSame(t, "QuarterThick", got, e, want, api.OK)
	}
}

// P8.3: RateOf.
func TestRateOf(t *testing.T) {
	for _, x := range []struct {
		q             api.GrowQuarter
		between, want api.Range
	}{
		{quarters(20000, 5000, 1), span(100, 125), span(5000, 6250)},
		{quarters(20000, 5000, 1), just(1), just(625000)},
		// The thickness is not rounded: 833.33 in 2 seconds.
		{quarters(15000, 5000, 1), just(2), span(416666, 416667)},
		{quarters(15000, 5000, 3), just(2), just(1250000)},
		{quarters(80000, 1000, 1), just(100000), span(0, 1)},
		{quarters(80000, 1000, 1), span(1, 100000), span(0, 31250)},
		{quarters(5000, 200000, 200), just(1), just(20000000000)},
		{quarters(5000, 200000, 200), span(1, 100000), span(200000, 20000000000)},
	} {
		got, e := grow.RateOf(x.q, x.between)
		wantSame(t, "RateOf", got, e, x.want, api.OK)
	}
	for _, between := range []api.Range{just(0), span(0, 1), span(0, 100000)} {
		got, e := grow.RateOf(quarters(20000, 5000, 1), between)
		wantSame(t, "no seconds", got, e, api.Range{}, api.ErrZero)
	}
}

// P8.3: EndAt.
func TestEndAt(t *testing.T) {
	for _, x := range []struct {
		q                 api.GrowQuarter
		rate, after, want api.Range
	}{
		{quarters(20000, 5000, 1), span(1000, 2000), span(2, 3), span(627, 631)},
		{quarters(20000, 5000, 1), just(1000), just(0), just(625)},
		{quarters(15000, 5000, 1), just(1000), just(0), span(833, 834)},
		// Together they are 833.333 and 0.666, or 0.667: they are rounded once.
		{quarters(15000, 5000, 1), just(666), just(1), span(833, 834)},
		{quarters(15000, 5000, 1), just(667), just(1), span(834, 835)},
		{quarters(15000, 5000, 1), just(333), just(2), span(833, 834)},
		{quarters(16000, 1000, 1), just(375), just(1), span(156, 157)},
		{quarters(16000, 1000, 1), just(750), just(1), just(157)},
		{quarters(5000, 200000, 200), just(1000000), just(100000), just(120000000)},
		{quarters(80000, 200000, 200), span(1, 1000000), span(0, 100000), span(1250000, 101250000)},
	} {
		got, e := grow.EndAt(x.q, x.rate, x.after)
		wantSame(t, "EndAt", got, e, x.want, api.OK)
	}
}

// P8.3: the errors of quarters, rates and seconds.
func TestQuarterDefects(t *testing.T) {
	for _, q := range []api.GrowQuarter{quarters(5000, 1000, 1), quarters(80000, 200000, 200)} {
		wantDefects(t, "QuarterThick", func() api.GrowQuarter { return q }, quarterDefects(), errorOf(t, grow.QuarterThick))
	}
	right := func() passed { return passed{quarters(20000, 5000, 1), span(1, 1000000), span(1, 100000)} }
	ofQuarters := within("quarters", func(x *passed) *api.GrowQuarter { return &x.q }, quarterDefects())
	ofSeconds := within("seconds", func(x *passed) *api.Range { return &x.seconds }, secondsDefects())
	zero := []defect[passed]{{"the second 0", func(x *passed) { x.seconds.Lo = 0 }, api.ErrZero, 0}}
	// Done behind a wrong end of the seconds, the second 0 does not mend their order: it is tried on its own here.
	wantDefects(t, "RateOf", right, slices.Concat(ofQuarters, ofSeconds),
		errorOf(t, func(x passed) (api.Range, api.Errno) { return grow.RateOf(x.q, x.seconds) }))
	wantDefects(t, "RateOf", right, slices.Concat(ofQuarters, zero),
		errorOf(t, func(x passed) (api.Range, api.Errno) { return grow.RateOf(x.q, x.seconds) }))
	for _, between := range []api.Range{span(0, -1), span(0, 100001)} {
		got, e := grow.RateOf(quarters(20000, 5000, 1), between)
		wantSame(t, "the size ahead of the second 0", got, e, api.Range{}, api.ErrRange)
	}
	wantDefects(t, "EndAt", right, slices.Concat(ofQuarters, within("rate", func(x *passed) *api.Range { return &x.rate }, rateDefects()), ofSeconds),
		errorOf(t, func(x passed) (api.Range, api.Errno) { return grow.EndAt(x.q, x.rate, x.seconds) }))
}

// P8.3: all three are those of fractions of any size.
func TestQuartersAgain(t *testing.T) {
	r := draws(30)
	for range 30000 {
		q, rate, seconds := drawnQuarters(r), drawnRate(r), drawnSeconds(r)
		thick := bookQuarters(q)
		got, e := grow.QuarterThick(q)
		wantSame(t, "QuarterThick", got, e, span(floor(thick), ceil(thick)), api.OK)
		end := func(rate, seconds int) []int {
			x := plus(thick, by(times(rate, seconds), rat(1000)))
			return []int{floor(x), ceil(x)}
		}
		got, e = grow.EndAt(q, rate, seconds)
		wantSame(t, "EndAt", got, e, span(end(rate.Lo, seconds.Lo)[0], end(rate.Hi, seconds.Hi)[1]), api.OK)
		got, e = grow.RateOf(q, seconds)
		if seconds.Lo == 0 {
			wantSame(t, "RateOf", got, e, api.Range{}, api.ErrZero)
			continue
		}
		all := times(1000)
		all.Mul(all, thick)
		wantSame(t, "RateOf", got, e, span(floor(by(all, rat(seconds.Hi))), ceil(by(all, rat(seconds.Lo)))), api.OK)
	}
}

// P8.3: what truly grows between, and behind turns lies in what is told.
func TestQuartersHold(t *testing.T) {
	r := draws(31)
	for range 5000 {
		q, seconds := drawnQuarters(r), drawnRange(r, 1, 100000)
		rate := must[api.Range](t)(grow.RateOf(q, seconds))
		if rate.Lo < 1 || rate.Hi > 1000000 {
			continue
		}
		// From the beginning of the quarters to their end, at this rate.
		grown := must[api.Range](t)(grow.Grown(rate, seconds))
		thick := must[api.Range](t)(grow.QuarterThick(q))
		if grown.Lo > thick.Lo || grown.Hi < thick.Hi {
			t.Fatalf("%v in %v: %v, which is %v; want %v", q, seconds, rate, grown, thick)
		}
		end := must[api.Range](t)(grow.EndAt(q, rate, just(0)))
		wantSame(t, "the turn itself", end, api.OK, thick, api.OK)
	}
}
