package rack_test

import (
	"math"
	"math/rand/v2"
	"slices"
	"strconv"
	"strings"
	"testing"

	"etalon/api"
	"etalon/rack"
)

// load returns a load: for each part the places that it fits.
func load(places int, fits ...[]int) api.RackLoad {
	l := api.RackLoad{Places: places}
	for i, f := range fits {
		l.Parts = append(l.Parts, api.RackPart{Name: "p" + strconv.Itoa(i), Fits: f})
	}
	return l
}

// upTo returns the numbers below n.
func upTo(n int) []int {
	var l []int
	for i := range n {
		l = append(l, i)
	}
	return l
}

// cover returns a cover.
func cover(parts, places []int) api.LoadCover { return api.LoadCover{Parts: parts, Places: places} }

// plainLoad is the load of the chapter's example.
func plainLoad() api.RackLoad { return load(2, []int{0}, []int{0}, []int{0, 1}) }

// drawnLoad returns a load of so many parts and places at most; a part fits a place once in so many times.
func drawnLoad(r *rand.Rand, most, times int) api.RackLoad {
	fits := make([][]int, r.IntN(most+1))
	places := r.IntN(most + 1)
	for i := range fits {
		for place := range places {
			if r.IntN(times) == 0 {
				fits[i] = append(fits[i], place)
			}
		}
	}
	return load(places, fits...)
}

// P9.4: CheckPlaces.
func TestCheckPlaces(t *testing.T) {
	for _, x := range []struct {
		name   string
		load   api.RackLoad
		places []int
		want   int
		errno  api.Errno
	}{
		{"the chapter's example", plainLoad(), []int{0, -1, 1}, 2, api.OK},
		{"the other part", plainLoad(), []int{-1, 0, 1}, 2, api.OK},
		{"one part", plainLoad(), []int{-1, -1, 0}, 1, api.OK},
		{"no part", plainLoad(), []int{-1, -1, -1}, 0, api.OK},
		{"a place that it does not fit", plainLoad(), []int{1, -1, -1}, 0, api.ErrForm},
		{"a place that it does not fit, the last part", load(3, []int{0}, []int{1, 2}, []int{0, 2}), []int{0, 2, 1}, 0, api.ErrForm},
		{"a place that an earlier part has", plainLoad(), []int{0, 0, 1}, 0, api.ErrDouble},
		{"a place that the first part has", plainLoad(), []int{0, -1, 0}, 0, api.ErrDouble},
		{"no such place", plainLoad(), []int{2, -1, -1}, 0, api.ErrMissing},
		{"a place below -1", plainLoad(), []int{-1, -1, -2}, 0, api.ErrMissing},
		{"the greatest number", plainLoad(), []int{0, math.MaxInt, -1}, 0, api.ErrMissing},
		{"the least number", plainLoad(), []int{0, math.MinInt, -1}, 0, api.ErrMissing},
		{"one part after the other: form", plainLoad(), []int{1, 0, 2}, 0, api.ErrForm},
		{"one part after the other: double", plainLoad(), []int{0, 0, 2}, 0, api.ErrDouble},
		{"one part after the other: missing", plainLoad(), []int{2, 1, 0}, 0, api.ErrMissing},
		{"a wrong form ahead of double", load(2, []int{0}, []int{1}), []int{0, 0}, 0, api.ErrForm},
		{"too few", plainLoad(), []int{0, -1}, 0, api.ErrShape},
		{"too few, and wrong ones", plainLoad(), []int{9, 9}, 0, api.ErrShape},
		{"too many", plainLoad(), []int{0, -1, 1, -1}, 0, api.ErrShape},
		{"none", plainLoad(), nil, 0, api.ErrShape},
		{"no parts", load(3), nil, 0, api.OK},
		{"no parts, but a place", load(3), []int{-1}, 0, api.ErrShape},
		{"no places", load(0, nil, nil), []int{-1, -1}, 0, api.OK},
		{"no places, but one is named", load(0, nil, nil), []int{-1, 0}, 0, api.ErrMissing},
		{"nothing", load(0), []int{}, 0, api.OK},
		{"a part that fits no place", load(1, nil, []int{0}), []int{0, -1}, 0, api.ErrForm},
		{"24 of each", load(24, slices.Repeat([][]int{upTo(24)}, 24)...), upTo(24), 24, api.OK},
	} {
		got, e := rack.CheckPlaces(x.load, x.places)
		wantSame(t, x.name, got, e, x.want, x.errno)
	}
}

// P9.4: CheckCover.
func TestCheckCover(t *testing.T) {
	for _, x := range []struct {
		name  string
		load  api.RackLoad
		cover api.LoadCover
		want  int
		errno api.Errno
	}{
		{"the chapter's example", plainLoad(), cover(nil, []int{0, 1}), 2, api.OK},
		{"a part and a place", plainLoad(), cover([]int{2}, []int{0}), 2, api.OK},
		{"all parts", plainLoad(), cover([]int{0, 1, 2}, nil), 3, api.OK},
		{"everything", plainLoad(), cover([]int{0, 1, 2}, []int{0, 1}), 5, api.OK},
		{"one place", plainLoad(), cover(nil, []int{0}), 0, api.ErrProof},
		{"the other place, and the last part", plainLoad(), cover([]int{2}, []int{1}), 0, api.ErrProof},
		{"the other place, and both others", plainLoad(), cover([]int{0, 1}, []int{1}), 0, api.ErrProof},
		{"both others", plainLoad(), cover([]int{0, 1}, nil), 0, api.ErrProof},
		{"all parts but the first one", plainLoad(), cover([]int{1, 2}, []int{1}), 0, api.ErrProof},
		{"nothing", plainLoad(), api.LoadCover{}, 0, api.ErrProof},
		{"no such part", plainLoad(), cover([]int{3}, nil), 0, api.ErrMissing},
		{"a part below 0", plainLoad(), cover([]int{-1}, nil), 0, api.ErrMissing},
		{"no such place", plainLoad(), cover(nil, []int{2}), 0, api.ErrMissing},
		{"a place below 0", plainLoad(), cover(nil, []int{-1}), 0, api.ErrMissing},
		{"a part twice", plainLoad(), cover([]int{1, 1}, []int{0, 1}), 0, api.ErrOrder},
		{"parts in another order", plainLoad(), cover([]int{1, 0}, []int{0, 1}), 0, api.ErrOrder},
		{"a place twice", plainLoad(), cover(nil, []int{0, 1, 1}), 0, api.ErrOrder},
		{"places in another order", plainLoad(), cover(nil, []int{1, 0}), 0, api.ErrOrder},
		{"one by one: missing", plainLoad(), cover([]int{0, 3, 1}, nil), 0, api.ErrMissing},
		{"one by one: order", plainLoad(), cover([]int{1, 0, 3}, nil), 0, api.ErrOrder},
		{"of one part missing first", plainLoad(), cover([]int{1, -1}, nil), 0, api.ErrMissing},
		{"parts first", plainLoad(), cover([]int{1, 1}, []int{2}), 0, api.ErrOrder},
		{"places then", plainLoad(), cover([]int{0, 1}, []int{1, 0}), 0, api.ErrOrder},
		{"the greatest numbers", plainLoad(), cover([]int{math.MaxInt}, []int{math.MaxInt}), 0, api.ErrMissing},
		{"the least numbers", plainLoad(), cover([]int{0}, []int{math.MinInt}), 0, api.ErrMissing},
		{"no parts", load(3), api.LoadCover{}, 0, api.OK},
		{"no parts, but one is named", load(3), cover([]int{0}, nil), 0, api.ErrMissing},
		{"no parts, places", load(3), cover(nil, []int{0, 2}), 2, api.OK},
		{"no places", load(0, nil, nil), cover([]int{}, []int{}), 0, api.OK},
		{"no places, but one is named", load(0, nil, nil), cover(nil, []int{0}), 0, api.ErrMissing},
		{"no places, parts", load(0, nil, nil), cover([]int{1}, nil), 1, api.OK},
		{"nothing of nothing", load(0), api.LoadCover{}, 0, api.OK},
		{"a part that fits no place is in none", load(2, nil, []int{1}), cover(nil, []int{1}), 1, api.OK},
		{"24 of each", load(24, slices.Repeat([][]int{upTo(24)}, 24)...), cover(upTo(24), nil), 24, api.OK},
		{"24 of each, all", load(24, slices.Repeat([][]int{upTo(24)}, 24)...), cover(upTo(24), upTo(24)), 48, api.OK},
		{"24 of each, less one", load(24, slices.Repeat([][]int{upTo(24)}, 24)...), cover(upTo(23), upTo(23)), 0, api.ErrProof},
	} {
		got, e := rack.CheckCover(x.load, x.cover)
		wantSame(t, x.name, got, e, x.want, x.errno)
	}
}

// wantLoad asks for a best load, and whether its assignment is right and its cover one, both with this number: by the
// functions that check them, and by the definition. It returns the number.
func wantLoad(t *testing.T, name string, l api.RackLoad) int {
	t.Helper()
	places, c, got, e := rack.BestLoad(l)
	if e != api.OK {
		t.Fatalf("%s, %v: the error %d", name, l, e)
	}
	n, errno := rack.CheckPlaces(l, places)
	wantSame(t, name+": the assignment", n, errno, got, api.OK)
	n, errno = rack.CheckCover(l, c)
	wantSame(t, name+": the cover", n, errno, got, api.OK)
	// Both checks have looked at the numbers and their order.
	if !bookIsRight(l, places) || bookPlaced(places) != got {
		t.Errorf("%s, %v: the assignment %v of %d", name, l, places, got)
	}
	if !bookIsCover(l, c) || len(c.Parts)+len(c.Places) != got {
		t.Errorf("%s, %v: the cover %v of %d", name, l, c, got)
	}
	return got
}

// P9.4: BestLoad.
func TestBestLoad(t *testing.T) {
	steps := make([][]int, 24)
	for i := range steps {
		steps[i] = []int{max(0, i-1), i}
	}
	steps[0] = []int{0}
	back := slices.Clone(steps)
	slices.Reverse(back)
	for _, x := range []struct {
		name string
		load api.RackLoad
		want int
	}{
		{"the chapter's example", plainLoad(), 2},
		{"nothing", load(0), 0},
		{"no parts", load(24), 0},
		{"no places", load(0, nil, nil), 0},
		{"parts that fit no place", load(3, nil, nil), 0},
		{"one part and one place", load(1, []int{0}), 1},
		{"parts that fit all places", load(3, upTo(3), upTo(3)), 2},
		{"more parts than places, which fit all", load(2, upTo(2), upTo(2), upTo(2)), 2},
		{"one place for all", load(24, slices.Repeat([][]int{{23}}, 24)...), 1},
		{"one part for all", load(24, upTo(24)), 1},
		{"parts that have to move", load(3, []int{0, 1}, []int{0, 2}, []int{0}), 3},
		{"parts that have to move, one after the other", load(24, steps...), 24},
		{"the other way round", load(24, back...), 24},
		{"a part too many", load(24, append(slices.Clone(steps[:23]), []int{5})...), 23},
		{"few parts have a place", load(24, slices.Repeat([][]int{nil, {3}, {3, 5}, {5}}, 6)...), 2},
		{"two places for three, one for itself", load(5, []int{1, 2}, []int{1, 2}, []int{1, 2}, []int{4}), 3},
		{"24 of each", load(24, slices.Repeat([][]int{upTo(24)}, 24)...), 24},
	} {
		if got := wantLoad(t, x.name, x.load); got != x.want {
			t.Errorf("%s: %d; want %d", x.name, got, x.want)
		}
	}
}

// P9.4: no assignment has more parts with a place: for all loads of four parts and three places, and for drawn ones.
func TestBestLoadOfAll(t *testing.T) {
	for number := range 1 << 12 {
		l := load(3, nil, nil, nil, nil)
		for bit := range 12 {
			if number>>bit&1 == 1 {
				l.Parts[bit/3].Fits = append(l.Parts[bit/3].Fits, bit%3)
			}
		}
		if got, want := wantLoad(t, "all loads", l), bookMost(l, 0, 0); got != want {
			t.Fatalf("%v: %d; want %d", l, got, want)
		}
	}
	r := draws(50)
	for range 2000 {
		l := drawnLoad(r, 7, 2+r.IntN(3))
		if got, want := wantLoad(t, "drawn", l), bookMost(l, 0, 0); got != want {
			t.Fatalf("%v: %d; want %d", l, got, want)
		}
	}
}

// P9.4: great loads are proved, too.
func TestBestLoadProved(t *testing.T) {
	r := draws(51)
	seen := map[bool]int{}
	for range 4000 {
		l := drawnLoad(r, 24, 1+r.IntN(20))
		got := wantLoad(t, "drawn", l)
		seen[got < min(len(l.Parts), l.Places)]++
	}
	wantSeen(t, "loads of which not all have a place", seen[true], 1000)
	wantSeen(t, "loads of which all have a place", seen[false], 1000)
}

// P9.9: no right assignment has more parts with places than any cover has members; a place more never makes fewer.
func TestNoMorePlaces(t *testing.T) {
	r := draws(52)
	seen := 0
	for range 20000 {
		l := drawnLoad(r, 5, 1+r.IntN(4))
		var places []int
		for range l.Parts {
			places = append(places, r.IntN(l.Places+1)-1)
		}
		placed, e := rack.CheckPlaces(l, places)
		if want := bookIsRight(l, places); want != (e == api.OK) {
			t.Errorf("%v, %v: %d", l, places, e)
		}
		c := cover(upTo(len(l.Parts)), upTo(l.Places))
		c.Parts = slices.DeleteFunc(c.Parts, func(int) bool { return r.IntN(2) == 0 })
		c.Places = slices.DeleteFunc(c.Places, func(int) bool { return r.IntN(2) == 0 })
		members, errno := rack.CheckCover(l, c)
		if want := bookIsCover(l, c); want != (errno == api.OK) {
			t.Errorf("%v, %v: %d", l, c, errno)
		}
		if e != api.OK || errno != api.OK {
			continue
		}
		seen++
		if placed != bookPlaced(places) || members != len(c.Parts)+len(c.Places) || placed > members {
			t.Errorf("%v: %d of %v, %d of %v", l, placed, places, members, c)
		}
	}
	wantSeen(t, "assignments and covers", seen, 1000)
	for range 1000 {
		l := drawnLoad(r, 23, 1+r.IntN(12))
		before := wantLoad(t, "a load", l)
		l.Places++
		if got := wantLoad(t, "a place that no part fits", l); got != before {
			t.Errorf("%v: %d, %d before", l, got, before)
		}
		for i := range l.Parts {
			if r.IntN(3) == 0 {
				l.Parts[i].Fits = append(l.Parts[i].Fits, l.Places-1)
			}
		}
		if got := wantLoad(t, "a place more", l); got < before || got > before+1 {
			t.Errorf("%v: %d, %d before", l, got, before)
		}
	}
}

// longName has as many letters as a name may have.
const longName = "abcdefghij-9"

// wrongNames are texts that are no names.
func wrongNames() []string {
	return []string{"", "1", "-a", "a b", " a", "a ", "a\n", "é", "a_", longName + "x", strings.Repeat("x", 60000)}
}

// loaded is a load with an assignment and a cover.
type loaded struct {
	load   api.RackLoad
	places []int
	cover  api.LoadCover
}

// rightLoaded is a load at the ends of what is right, with an assignment and a cover.
func rightLoaded() loaded {
	l := load(24, []int{0, 23}, []int{1, 2, 23}, nil, []int{23})
	for i, name := range []string{"A", longName, "z9", "a"} {
		l.Parts[i].Name = name
	}
	return loaded{l, []int{0, 2, -1, 23}, cover([]int{0, 1, 3}, []int{0, 23})}
}

// loadDefects returns the defects of a load with four parts and 24 places.
func loadDefects() []defect[loaded] {
	l := slices.Concat(
		within("Places", func(x *loaded) *int { return &x.load.Places }, beyond(0, 24, api.ErrRange)),
		[]defect[loaded]{
			{"25 parts", func(x *loaded) { x.load.Parts = load(0, make([][]int, 25)...).Parts }, api.ErrLarge, 0},
			{"many wrong parts", func(x *loaded) { x.load.Parts = make([]api.RackPart, 5000) }, api.ErrLarge, 0},
		},
	)
	for i := range 4 {
		part := func(name string, e api.Errno, do func(parts []api.RackPart)) {
			l = append(l, defect[loaded]{name, func(x *loaded) { do(x.load.Parts) }, e, i})
		}
		for _, name := range wrongNames() {
			part("a name", api.ErrName, func(parts []api.RackPart) { parts[i].Name = name })
		}
		for earlier := range i {
			part("an earlier name", api.ErrExists, func(parts []api.RackPart) { parts[i].Name = parts[earlier].Name })
		}
		for _, fits := range [][]int{{-1}, {24}, {0, 24}, {math.MinInt}, {5, math.MaxInt}, {3, -1}, {3, 24, 4}, {7, -1, 24}} {
			part("no such place", api.ErrMissing, func(parts []api.RackPart) { parts[i].Fits = fits })
		}
		for _, fits := range [][]int{{0, 0}, {1, 0}, {22, 23, 23}, {5, 4, 24}, {5, 5, -1}} {
			part("order of places", api.ErrOrder, func(parts []api.RackPart) { parts[i].Fits = fits })
		}
	}
	return l
}

// P9.4: the errors of loads, with their numbers.
func TestLoadDefects(t *testing.T) {
	wantDefects(t, "CheckLoad", rightLoaded, loadDefects(), func(x loaded) (int, api.Errno) { return rack.CheckLoad(x.load) })
	for _, x := range []struct {
		name   string
		load   api.RackLoad
		number int
		errno  api.Errno
	}{
		{"nothing", api.RackLoad{}, 0, api.OK},
		{"no places, which parts fit", load(0, nil, []int{0}), 1, api.ErrMissing},
		{"24 of each", load(24, slices.Repeat([][]int{upTo(24)}, 24)...), 0, api.OK},
		{"24 of each, one too many", load(24, slices.Repeat([][]int{upTo(25)}, 24)...), 0, api.ErrMissing},
		{"25 parts", load(24, make([][]int, 25)...), 0, api.ErrLarge},
		{"25 places", load(25), 0, api.ErrRange},
		{"the places of a part ahead of the next name", api.RackLoad{Places: 1, Parts: []api.RackPart{{Name: "a", Fits: []int{1}}, {Name: "a"}}}, 0, api.ErrMissing},
		{"a name that is there, ahead of its places", api.RackLoad{Places: 1, Parts: []api.RackPart{{Name: "a"}, {Name: "a", Fits: []int{1}}}}, 1, api.ErrExists},
		{"names that differ in their size", api.RackLoad{Parts: []api.RackPart{{Name: "a"}, {Name: "A"}}}, 0, api.OK},
	} {
		n, e := rack.CheckLoad(x.load)
		wantSame(t, x.name, n, e, x.number, x.errno)
	}
	unnumbered := loadDefects()
	for i := range unnumbered {
		unnumbered[i].number = 0
	}
	wantDefects(t, "BestLoad", rightLoaded, unnumbered, func(x loaded) (int, api.Errno) {
		places, c, n, e := rack.BestLoad(x.load)
		wantNone[[]int](t, "an assignment")(places, e)
		wantNone[api.LoadCover](t, "a cover")(c, e)
		if e == api.OK {
			n = 0
		}
		return n, e
	})
	places := slices.Concat(unnumbered, []defect[loaded]{
		{"no numbers", func(x *loaded) { x.places = nil }, api.ErrShape, 0},
		{"a number too few", func(x *loaded) { x.places = x.places[:3] }, api.ErrShape, 0},
		{"a number too many", func(x *loaded) { x.places = append(x.places, -1) }, api.ErrShape, 0},
		{"no such place", func(x *loaded) { x.places[0] = 24 }, api.ErrMissing, 0},
		{"a place below -1", func(x *loaded) { x.places[0] = -2 }, api.ErrMissing, 0},
		{"a place that the first part does not fit", func(x *loaded) { x.places[0] = 1 }, api.ErrForm, 0},
		{"a place that the second part does not fit", func(x *loaded) { x.places[1] = 0 }, api.ErrForm, 0},
		{"a place that the third part does not fit", func(x *loaded) { x.places[2] = 23 }, api.ErrForm, 0},
		{"no such place, the last part", func(x *loaded) { x.places[3] = math.MaxInt }, api.ErrMissing, 0},
		{"twice", func(x *loaded) { x.places[1], x.places[3] = 23, 23 }, api.ErrDouble, 0},
	})
	wantDefects(t, "CheckPlaces", rightLoaded, places, errorOf(t, func(x loaded) (int, api.Errno) { return rack.CheckPlaces(x.load, x.places) }))
	covers := slices.Concat(unnumbered, []defect[loaded]{
		{"no such part", func(x *loaded) { x.cover.Parts[0] = 4 }, api.ErrMissing, 0},
		{"order of parts", func(x *loaded) { x.cover.Parts[1] = 0 }, api.ErrOrder, 0},
		{"no such part, the last one", func(x *loaded) { x.cover.Parts = []int{0, 1, -1} }, api.ErrMissing, 0},
		{"no such place", func(x *loaded) { x.cover.Places[0] = -1 }, api.ErrMissing, 0},
		{"order of places", func(x *loaded) { x.cover.Places[1] = 0 }, api.ErrOrder, 0},
		{"no cover", func(x *loaded) { x.cover.Parts = []int{0, 3} }, api.ErrProof, 0},
	})
	wantDefects(t, "CheckCover", rightLoaded, covers, errorOf(t, func(x loaded) (int, api.Errno) { return rack.CheckCover(x.load, x.cover) }))
}
