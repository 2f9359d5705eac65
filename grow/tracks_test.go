package grow_test

import (
	"math"
	"math/rand/v2"
	"slices"
	"testing"

	"etalon/api"
	"etalon/grow"
)

// at returns a reading.
func at(second, thick int) api.GrowReading { return api.GrowReading{Second: second, Thick: thick} }

// track returns a track.
func track(rate api.Range, wrong int, readings ...api.GrowReading) api.GrowTrack {
	return api.GrowTrack{Rate: rate, Error: wrong, Readings: readings}
}

// sampleTrack is the track of the chapter's examples, with any second thickness.
func sampleTrack(thick int) api.GrowTrack {
	return track(span(1000, 2000), 1, at(5, 10), at(15, thick))
}

// wantTracked asks for the enclosures of a track with growths, and for none of another one, which has a contradiction.
func wantTracked(t *testing.T, x api.GrowTrack, want ...api.Range) {
	t.Helper()
	got, e := grow.Tracked(x)
	wantSame(t, "Tracked", got, e, want, api.OK)
	pair, e := grow.Contradiction(x)
	wantSame(t, "Contradiction", pair, e, [2]int{}, api.ErrNone)
}

func wantContradiction(t *testing.T, x api.GrowTrack, earlier, later int) {
	t.Helper()
	got, e := grow.Tracked(x)
	wantSame(t, "Tracked", got, e, nil, api.ErrNone)
	pair, e := grow.Contradiction(x)
	wantSame(t, "Contradiction", pair, e, [2]int{earlier, later}, api.OK)
}

// P8.2: Tracked.
func TestTracked(t *testing.T) {
	wantTracked(t, sampleTrack(30), span(9000, 10000), span(29000, 30000))
	wantTracked(t, sampleTrack(22), span(9000, 10000), span(21000, 23000))
	wantTracked(t, sampleTrack(20), span(9000, 10000), span(19000, 21000))
	wantTracked(t, sampleTrack(19), span(9000, 10000), span(19000, 20000))
	wantTracked(t, sampleTrack(18), just(9000), just(19000))
	// Of the greatest thicknesses that may be read just one growth is left.
	wantTracked(t, sampleTrack(31), just(10000), just(30000))
	// Without readings there is nothing to enclose.
	wantTracked(t, track(span(1, 1000000), 0))
	// A rate of a single number grows in one way only.
	wantTracked(t, track(just(1500), 1, at(1, 2), at(3, 4), at(100, 150)), just(1500), just(4500), just(150000))
	// A reading may be 0.
	wantTracked(t, track(span(1, 1000), 1, at(1, 0), at(2, 0)), span(1, 999), span(2, 1000))
	wantTracked(t, track(span(1, 1000), 1, at(1000, 0)), just(1000))
	// Readings with the greatest error say nothing.
	wantTracked(t, track(span(1, 1000), 1000000, at(10, 0), at(100000, 1000000)), span(10, 10000), span(100000, 100000000))
	wantTracked(t, track(just(1000000), 1000000, at(1000, 0), at(2000, 1000000)), just(1000000000), just(2000000000))
	wantTracked(t, track(span(1, 1000000), 1000000, at(100000, 1000000)), span(100000, 2000000000))
	wantTracked(t, track(span(1, 1000000), 0, at(1000, 1000000)), just(1000000000))
	// A later reading tells of earlier ones, and through them of those ahead.
	wantTracked(t, track(span(1000, 2000), 10, at(10, 15), at(20, 30), at(30, 60)), span(10000, 20000), span(30000, 40000), span(50000, 60000))
	wantTracked(t, track(span(1000, 2000), 10, at(10, 15), at(20, 30), at(30, 65)), span(15000, 20000), span(35000, 40000), span(55000, 60000))
}

// P8.2: Contradiction.
func TestContradiction(t *testing.T) {
	wantContradiction(t, sampleTrack(40), -1, 1)
	wantContradiction(t, sampleTrack(32), -1, 1)
	wantContradiction(t, sampleTrack(17), 0, 1)
	// The beginning stands ahead of all pairs, wherever the other one is.
	wantContradiction(t, track(span(1000, 2000), 1, at(5, 12)), -1, 0)
	wantContradiction(t, track(span(1000, 2000), 1, at(5, 3)), -1, 0)
	wantContradiction(t, track(span(1000, 2000), 1, at(5, 10), at(6, 14), at(7, 16)), -1, 1)
	wantContradiction(t, track(span(1000, 2000), 0, at(5, 5), at(6, 8), at(7, 7)), 0, 1)
	wantContradiction(t, track(span(1, 2000), 0, at(5, 5), at(6, 7), at(7, 6), at(8, 17)), -1, 3)
	wantContradiction(t, track(span(1, 2000), 0, at(5, 5), at(6, 7), at(7, 6), at(8, 16)), 0, 3)
	wantContradiction(t, track(span(1, 2000), 0, at(5, 5), at(6, 7), at(7, 6)), 1, 2)
	// Readings far apart contradict, although each one goes with its neighbours.
	wantContradiction(t, track(span(1, 1000), 5, at(10, 5), at(20, 12), at(30, 24), at(40, 36), at(50, 48), at(60, 60), at(70, 76), at(80, 80)), -1, 6)
	wantContradiction(t, track(span(1000, 1010), 5, at(1000, 1000), at(1010, 1015), at(1020, 1025), at(1030, 1041)), 0, 3)
	wantContradiction(t, track(span(990, 1000), 5, at(1000, 1000), at(1010, 1005), at(1020, 1014), at(1030, 1019)), 0, 3)
	// A thickness is never below 0.
	wantContradiction(t, track(span(1001, 2000), 1, at(1, 0)), -1, 0)
	wantContradiction(t, track(span(1, 1), 1, at(1000, 0), at(1001, 0)), -1, 1)
	// By one thousandth alone.
	wantTracked(t, track(just(999), 0, at(1000, 999)), just(999000))
	wantContradiction(t, track(just(999), 0, at(1001, 999)), -1, 0)
	wantContradiction(t, track(just(999), 0, at(999, 999)), -1, 0)
	wantContradiction(t, track(just(1000000), 1000000, at(2001, 1000000)), -1, 0)
	wantTracked(t, track(just(1), 999900, at(100000, 1000000)), just(100000))
	wantContradiction(t, track(just(1), 999899, at(100000, 1000000)), -1, 0)
}

// rightTrack is a track at the ends of what is right.
func rightTrack() api.GrowTrack {
	return track(span(1, 1000000), 1000000, at(1, 0), at(2, 1000000), at(100000, 5))
}

func trackDefects() []defect[api.GrowTrack] {
	l := slices.Concat(
		within("Rate", func(x *api.GrowTrack) *api.Range { return &x.Rate }, rateDefects()),
		within("Error", func(x *api.GrowTrack) *int { return &x.Error }, beyond(0, 1000000)),
		[]defect[api.GrowTrack]{
			{"41 readings", func(x *api.GrowTrack) { x.Readings = many(41) }, api.ErrLarge, 0},
			{"many wrong readings", func(x *api.GrowTrack) { x.Readings = make([]api.GrowReading, 5000) }, api.ErrLarge, 0},
		},
	)
	for i := range 3 {
		l = slices.Concat(l, numbered(i, slices.Concat(
			within("Second", func(x *api.GrowTrack) *int { return &x.Readings[i].Second }, beyond(1, 100000)),
			within("Thick", func(x *api.GrowTrack) *int { return &x.Readings[i].Thick }, beyond(0, 1000000)),
		)))
		if i > 0 {
			l = append(l, defect[api.GrowTrack]{"the second of the reading before", func(x *api.GrowTrack) { x.Readings[i].Second = x.Readings[i-1].Second }, api.ErrOrder, i})
		}
	}
	return l
}

// many returns so many right readings.
func many(readings int) []api.GrowReading {
	var l []api.GrowReading
	for i := range readings {
		l = append(l, at(1+i, i))
	}
	return l
}

// P8.2: the errors of tracks, with their numbers; Tracked and Contradiction have the same ones.
func TestTrackDefects(t *testing.T) {
	defects := trackDefects()
	wantDefects(t, "CheckTrack", rightTrack, defects, grow.CheckTrack)
	possible := func() api.GrowTrack { return track(span(1, 1000000), 1000000, at(1, 0), at(2, 1000000), at(9, 5)) }
	wantDefects(t, "Tracked", possible, defects, errorOf(t, grow.Tracked))
	impossible := func() api.GrowTrack { return track(span(1, 1000000), 0, at(1, 0), at(2, 1000000), at(9, 5)) }
	wantDefects(t, "Contradiction", impossible, defects, errorOf(t, grow.Contradiction))
	for _, x := range []struct {
		track  api.GrowTrack
		number int
		errno  api.Errno
	}{
		{api.GrowTrack{}, 0, api.ErrRange},
		{track(span(1, 1), 0), 0, api.OK},
		{track(span(1, 1), 0, []api.GrowReading{}...), 0, api.OK},
		{track(span(1, 1), 0, many(40)...), 0, api.OK},
		{track(span(1, 1), 0, at(2, 0), at(1, 0)), 1, api.ErrOrder},
		{track(span(1, 1), 0, at(2, 0), at(2, 0)), 1, api.ErrOrder},
		{track(span(1, 1), 0, at(100000, 0), at(100000, 0)), 1, api.ErrOrder},
		{track(span(1, 1), 0, at(3, 0), at(4, 0), at(3, 0), at(0, 0)), 2, api.ErrOrder},
		{track(span(1, 1), 0, at(3, 0), at(4, 0), at(3, -1), at(0, 0)), 2, api.ErrRange},
		{track(span(1, 1), 0, append(many(39), at(40, 1000001))...), 39, api.ErrRange},
		{track(span(1, 1), 0, append(many(39), at(39, 0))...), 39, api.ErrOrder},
		{track(span(1, 1), 0, at(math.MinInt, math.MinInt)), 0, api.ErrRange},
		{track(span(2, 1), -1), 0, api.ErrOrder},
	} {
		n, e := grow.CheckTrack(x.track)
		wantSame(t, "CheckTrack", n, e, x.number, x.errno)
	}
}

// drawnGrowth returns a track, and a growth that keeps it: the thickness in thousandths at each reading.
func drawnGrowth(r *rand.Rand) (api.GrowTrack, []int) {
	x := track(drawnRange(r, 1, 1<<(1+r.IntN(20))), drawnUpTo(r, 0, 1<<r.IntN(12)))
	x.Rate.Hi = min(x.Rate.Hi, 1000000)
	x.Rate.Lo = min(x.Rate.Lo, x.Rate.Hi)
	var growth []int
	second, thick := 0, 0
	for range r.IntN(1 + min(40, 1<<r.IntN(7))) {
		went := 1 + r.IntN(1<<r.IntN(9))
		if second+went > 100000 {
			break
		}
		second += went
		thick += drawnBetween(r, x.Rate.Lo*went, x.Rate.Hi*went)
		// What is read is a whole number that is at most Error away.
		lo, hi := max(0, (thick-1000*x.Error+999)/1000), min(1000000, thick/1000+x.Error)
		if lo > hi {
			break
		}
		x.Readings = append(x.Readings, at(second, drawnBetween(r, lo, hi)))
		growth = append(growth, thick)
	}
	return x, growth
}

// keeps says whether a growth keeps a track.
func keeps(x api.GrowTrack, growth []int) bool {
	second, before := 0, 0
	for i, r := range x.Readings {
		went, grown := r.Second-second, growth[i]-before
		if grown < x.Rate.Lo*went || grown > x.Rate.Hi*went || growth[i] < 1000*(r.Thick-x.Error) || growth[i] > 1000*(r.Thick+x.Error) {
			return false
		}
		second, before = r.Second, growth[i]
	}
	return true
}

// through returns a growth that has a thickness at one of the readings, and is as near to what was read as it can be
// elsewhere: forth and back from there each thickness is one of the enclosure that the rate leads to.
func through(x api.GrowTrack, enclosures []api.Range, reading, thick int) []int {
	growth := make([]int, len(enclosures))
	growth[reading] = thick
	for i := reading + 1; i < len(growth); i++ {
		went := x.Readings[i].Second - x.Readings[i-1].Second
		lo, hi := max(enclosures[i].Lo, growth[i-1]+x.Rate.Lo*went), min(enclosures[i].Hi, growth[i-1]+x.Rate.Hi*went)
		growth[i] = max(lo, min(hi, 1000*x.Readings[i].Thick))
	}
	for i := reading - 1; i >= 0; i-- {
		went := x.Readings[i+1].Second - x.Readings[i].Second
		lo, hi := max(enclosures[i].Lo, growth[i+1]-x.Rate.Hi*went), min(enclosures[i].Hi, growth[i+1]-x.Rate.Lo*went)
		growth[i] = max(lo, min(hi, 1000*x.Readings[i].Thick))
	}
	return growth
}

// P8.8: a growth that keeps a track lies in its enclosures, and both ends of each enclosure are reached by one.
func TestNarrowest(t *testing.T) {
	r := draws(20)
	seen := 0
	for range 20000 {
		x, growth := drawnGrowth(r)
		if !keeps(x, growth) {
			t.Fatalf("%v does not keep %v", growth, x)
		}
		enclosures := must[[]api.Range](t)(grow.Tracked(x))
		for i, thick := range growth {
			if thick < enclosures[i].Lo || thick > enclosures[i].Hi {
				t.Fatalf("%v: %v has not %v", x, enclosures, growth)
			}
			for _, end := range [2]int{enclosures[i].Lo, enclosures[i].Hi} {
				if reaching := through(x, enclosures, i, end); !keeps(x, reaching) {
					t.Fatalf("%v: %v do not reach %d in %v", x, reaching, end, enclosures)
				}
				seen++
			}
		}
		wantTracked(t, x, bookTracked(x)...)
	}
	wantSeen(t, "ends", seen, 50000)
}

// P8.8: a track has a growth just if no two readings contradict; the first ones that do are told.
func TestTracksAgain(t *testing.T) {
	r := draws(21)
	var possible, beginning, apart int
	for range 40000 {
		x, growth := drawnGrowth(r)
		// Some readings are a little wrong, so that tracks are often just impossible.
		for range r.IntN(3) {
			if len(growth) > 0 {
				reading := &x.Readings[r.IntN(len(growth))]
				reading.Thick = max(0, min(1000000, reading.Thick+drawnBetween(r, -1, 1)<<r.IntN(14)))
			}
		}
		pair, there := bookContradiction(x)
		if !there {
			possible++
			wantTracked(t, x, bookTracked(x)...)
			continue
		}
		if pair[0] == -1 {
			beginning++
		}
		if pair[1]-pair[0] > 1 {
			apart++
		}
		wantContradiction(t, x, pair[0], pair[1])
	}
	t.Log(possible, beginning, apart)
	wantSeen(t, "tracks with a growth", possible, 5000)
	wantSeen(t, "contradictions with the beginning", beginning, 2000)
	wantSeen(t, "contradictions of readings apart", apart, 1000)
}

// P8.8: of small tracks all growths in thousandths are tried.
func TestAllGrowths(t *testing.T) {
	r := draws(22)
	seen := 0
	for range 3000 {
		x := track(drawnRange(r, 1, 600), 0)
		second := 0
		for range 1 + r.IntN(3) {
			second += 1 + r.IntN(2)
			x.Readings = append(x.Readings, at(second, r.IntN(3)))
		}
		x.Error = r.IntN(2)
		if x.Rate.Hi-x.Rate.Lo > 30 {
			x.Rate.Lo = x.Rate.Hi - r.IntN(30)
		}
		hull := hullOfGrowths(x)
		got, e := grow.Tracked(x)
		if hull == nil {
			wantSame(t, "Tracked", got, e, nil, api.ErrNone)
			continue
		}
		seen++
		wantSame(t, "Tracked", got, e, hull, api.OK)
	}
	wantSeen(t, "tracks with a growth", seen, 300)
}

// hullOfGrowths returns the least and the greatest thickness of all growths at each reading, nil if there are none. Each
// thickness is kept that some thickness before leads to, and then each one that leads to some thickness behind.
func hullOfGrowths(x api.GrowTrack) []api.Range {
	sets := []map[int]bool{{0: true}}
	steps := func(i int) (from, to int) {
		went := x.Readings[i].Second
		if i > 0 {
			went -= x.Readings[i-1].Second
		}
		return x.Rate.Lo * went, x.Rate.Hi * went
	}
	for i, r := range x.Readings {
		next := map[int]bool{}
		from, to := steps(i)
		for thick := range sets[i] {
			for grown := thick + from; grown <= thick+to; grown++ {
				if grown >= 1000*(r.Thick-x.Error) && grown <= 1000*(r.Thick+x.Error) {
					next[grown] = true
				}
			}
		}
		sets = append(sets, next)
	}
	for i := len(sets) - 2; i > 0; i-- {
		from, to := steps(i)
		for thick := range sets[i] {
			leads := false
			for grown := thick + from; grown <= thick+to; grown++ {
				leads = leads || sets[i+1][grown]
			}
			if !leads {
				delete(sets[i], thick)
			}
		}
	}
	var hull []api.Range
	for _, set := range sets[1:] {
		if len(set) == 0 {
			return nil
		}
		all := span(math.MaxInt, math.MinInt)
		for thick := range set {
			all = span(min(all.Lo, thick), max(all.Hi, thick))
		}
		hull = append(hull, all)
	}
	return hull
}
