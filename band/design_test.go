package band_test

import (
	"math"
	"math/rand/v2"
	"slices"
	"testing"

	"etalon/api"
	"etalon/band"
)

// choosing returns a search for layers that reflect at most 1 in 100 at 6000.
func choosing(on, most int, options ...api.LayerBox) api.BandSearch {
	d := over(reflecting(0, 100), just(6000), just(0))
	return api.BandSearch{Demands: []api.BandDemand{d}, Options: options, On: api.Substrate{Index: on}, Most: most}
}

// quarters are quarter waves of the indices 2 and 3 at 6000.
func quarters() []api.LayerBox { return []api.LayerBox{box(20000, 750), box(30000, 500)} }

// broken returns so many points that refute the first demand at 6000.
func broken(many int) []api.BandPoint { return slices.Repeat([]api.BandPoint{{Wave: 6000}}, many) }

// sameDesign says whether two designs are the same.
func sameDesign(a, b api.BandDesign) bool {
	return slices.Equal(a.Layers, b.Layers) && slices.EqualFunc(a.Trees, b.Trees, slices.Equal[[]int]) && slices.Equal(a.Refuted, b.Refuted)
}

// wantDesign reports a design or an error that is not the expected one.
func wantDesign(t *testing.T, name string, x api.BandSearch, want api.BandDesign, errno api.Errno) {
	t.Helper()
	if got, e := band.LeastDesign(x); !sameDesign(got, want) || e != errno {
		t.Errorf("%s: %v, %d; want %v, %d", name, got, e, want, errno)
	}
}

// wrongSearch is what CheckSearch refuses, with the number that it tells.
type wrongSearch struct {
	name   string
	x      api.BandSearch
	number int
	errno  api.Errno
}

func wrongSearches() []wrongSearch {
	var l []wrongSearch
	add := func(name string, number int, errno api.Errno, change func(x *api.BandSearch)) {
		x := sampleSearch()
		change(&x)
		l = append(l, wrongSearch{name, x, number, errno})
	}
	add("no demands", 0, api.ErrShape, func(x *api.BandSearch) { x.Demands = nil })
	add("no demands ahead of no options", 0, api.ErrShape, func(x *api.BandSearch) { x.Demands, x.Options = []api.BandDemand{}, nil })
	add("too many demands", 0, api.ErrLarge, func(x *api.BandSearch) { x.Demands = make([]api.BandDemand, 9) })
	for _, d := range wrongDemands() {
		add(d.name, 2, d.errno, func(x *api.BandSearch) { x.Demands[2], x.Options = d.d, nil })
	}
	for _, on := range wrongSubstrates() {
		add("what the layers lie on, ahead of no options", 0, api.ErrRange, func(x *api.BandSearch) { x.On, x.Options = on, nil })
	}
	add("no options", 0, api.ErrShape, func(x *api.BandSearch) { x.Options = nil })
	add("an empty list of options", 0, api.ErrShape, func(x *api.BandSearch) { x.Options = []api.LayerBox{} })
	add("no options ahead of too many layers", 0, api.ErrShape, func(x *api.BandSearch) { x.Options, x.Most = nil, 4 })
	add("too many options", 0, api.ErrLarge, func(x *api.BandSearch) { x.Options = slices.Repeat(x.Options, 2) })
	add("too many options that are none", 0, api.ErrLarge, func(x *api.BandSearch) { x.Options = make([]api.LayerBox, 4) })
	add("41 options", 0, api.ErrLarge, func(x *api.BandSearch) { x.Options = make([]api.LayerBox, 41) })
	for b, errno := range wrongLayers() {
		add("the first option", 0, errno, func(x *api.BandSearch) { x.Options[0], x.Options[1], x.Most = b, api.LayerBox{}, -1 })
		add("the last option", 2, errno, func(x *api.BandSearch) { x.Options, x.Most = append(slices.Clone(x.Options), b), 4 })
	}
	for _, n := range []int{math.MinInt, -1, 4, math.MaxInt} {
		add("layers", 0, api.ErrRange, func(x *api.BandSearch) { x.Most = n })
	}
	return l
}

// P4.7: CheckSearch, and the errors of searches.
func TestCheckSearch(t *testing.T) {
	full := sampleSearch()
	full.Demands = slices.Repeat(full.Demands[:1], 8)
	full.Options = append(full.Options, api.LayerBox{Index: span(5000, 80000), Thick: span(0, 1000000), Loss: 80000})
	full.Most = 3
	for _, x := range []api.BandSearch{sampleSearch(), full, choosing(15000, 0, quarters()[0]), choosing(15000, 3, quarters()...)} {
		i, e := band.CheckSearch(x)
		wantSame(t, "a right one", i, e, 0, api.OK)
	}
	for _, x := range wrongSearches() {
		i, e := band.CheckSearch(x.x)
		wantSame(t, x.name, i, e, x.number, x.errno)
		wantDesign(t, x.name, x.x, api.BandDesign{}, x.errno)
		i, e = band.CheckDesign(x.x, api.BandDesign{Layers: []int{9, 9, 9, 9, 9}})
		wantSame(t, "CheckDesign of "+x.name, i, e, 0, x.errno)
	}
}

// P4.7: LeastDesign, the chapter's example and designs of each length.
func TestLeastDesign(t *testing.T) {
	two, none := quarters(), api.BandDesign{}
	wide := api.LayerBox{Index: just(20000), Thick: span(0, 1500)}
	halfWave := box(20000, 1500)
	exact := choosing(40000, 3, two...)
	exact.Demands[0] = over(reflecting(3600, 3600), just(6000), just(0))
	both := choosing(40000, 3, two...)
	both.Demands = append(both.Demands, over(reflecting(3000, 4000), just(6000), just(0)))
	either := choosing(40000, 3, two[1], two[0])
	either.Demands = append(either.Demands, over(reflecting(0, 9000), span(5900, 6100), span(0, 9)))
	for _, x := range []struct {
		name  string
		x     api.BandSearch
		want  api.BandDesign
		errno api.Errno
	}{
		{"the chapter's example", api.BandSearch{Demands: []api.BandDemand{reflecting(0, 100)}, Options: quarter(), On: api.Substrate{Index: 40000}, Most: 1},
			api.BandDesign{Layers: []int{0}, Trees: [][]int{{0}}, Refuted: []api.BandPoint{{Wave: 4000}}}, api.OK},
		{"no layers", choosing(10000, 0, two...), api.BandDesign{Trees: [][]int{{0}}}, api.OK},
		{"no layers, though there may be some", choosing(10000, 3, two...), api.BandDesign{Trees: [][]int{{0}}}, api.OK},
		{"no layers may be", choosing(40000, 0, two...), none, api.ErrNone},
		{"one layer", choosing(40000, 1, two...), api.BandDesign{Layers: []int{0}, Trees: [][]int{{0}}, Refuted: broken(1)}, api.OK},
		{"one layer, the second option", choosing(40000, 2, two[1], two[0]), api.BandDesign{Layers: []int{1}, Trees: [][]int{{0}}, Refuted: broken(1)}, api.OK},
		{"one layer, the first one of like ones", choosing(40000, 3, two[1], two[0], two[0]), api.BandDesign{Layers: []int{1}, Trees: [][]int{{0}}, Refuted: broken(1)}, api.OK},
		{"two layers", choosing(22500, 3, two...), api.BandDesign{Layers: []int{0, 1}, Trees: [][]int{{0}}, Refuted: broken(3)}, api.OK},
		{"two layers, the options the other way round", choosing(22500, 2, two[1], two[0]), api.BandDesign{Layers: []int{1, 0}, Trees: [][]int{{0}}, Refuted: broken(3)}, api.OK},
		{"two layers, but one may be", choosing(22500, 1, two...), none, api.ErrNone},
		{"three layers", choosing(17778, 3, two...), api.BandDesign{Layers: []int{0, 1, 0}, Trees: [][]int{{0}}, Refuted: broken(7)}, api.OK},
		{"three layers of three options", choosing(17778, 3, halfWave, two[1], two[0]), api.BandDesign{Layers: []int{2, 1, 2}, Trees: [][]int{{0}}, Refuted: broken(13)}, api.OK},
		{"three layers, but two may be", choosing(17778, 2, two...), none, api.ErrNone},
		{"four layers would be", choosing(40000, 3, halfWave), none, api.ErrNone},
		{"no layers are open", exact, none, api.ErrOpen},
		{"one layer is open", choosing(40000, 3, wide), none, api.ErrOpen},
		{"one layer is open, the other one broken", choosing(40000, 3, wide, two[1]), none, api.ErrOpen},
		{"one layer is broken, the other one open", choosing(40000, 3, two[1], wide), none, api.ErrOpen},
		{"one layer is open, the other one kept", choosing(40000, 3, wide, two[0]), api.BandDesign{Layers: []int{1}, Trees: [][]int{{0}}, Refuted: broken(1)}, api.OK},
		{"one layer is broken, one open, one kept", choosing(40000, 3, two[1], wide, two[0]), api.BandDesign{Layers: []int{2}, Trees: [][]int{{0}}, Refuted: broken(1)}, api.OK},
		{"one layer is open, but none may be", choosing(40000, 0, wide), none, api.ErrNone},
		{"demands that go against each other", both, none, api.ErrNone},
		{"two demands", either, api.BandDesign{Layers: []int{1}, Trees: [][]int{{0}, {0}}, Refuted: broken(1)}, api.OK},
	} {
		wantDesign(t, x.name, x.x, x.want, x.errno)
		design, errno := bookDesign(x.x)
		wantDesign(t, x.name+", by the book", x.x, design, errno)
		if x.errno == api.OK {
			n, e := band.CheckDesign(x.x, x.want)
			wantSame(t, x.name+", checked", n, e, len(x.want.Layers), api.OK)
		}
	}
}

// bookLists returns all lists of a length, each of a shorter list with one more in front.
func bookLists(options, length int) [][]int {
	if length == 0 {
		return [][]int{nil}
	}
	var l [][]int
	for first := range options {
		for _, rest := range bookLists(options, length-1) {
			l = append(l, append([]int{first}, rest...))
		}
	}
	return l
}

// bookLayered returns the task of a search with the layers of a list.
func bookLayered(x api.BandSearch, list []int) api.BandTask {
	t := api.BandTask{Demands: x.Demands, On: x.On}
	for _, i := range list {
		t.Layers = append(t.Layers, x.Options[i])
	}
	return t
}

// bookDesign searches for a design by the answers of all lists of a length.
func bookDesign(x api.BandSearch) (api.BandDesign, api.Errno) {
	var d api.BandDesign
	for length := 0; length <= x.Most; length++ {
		var points []api.BandPoint
		open, found := false, false
		for _, list := range bookLists(len(x.Options), length) {
			answer, trees, point := bookTask(bookLayered(x, list))
			if answer == api.AnswerYes && !found {
				found, d.Layers, d.Trees = true, list, trees
			}
			open = open || answer == api.AnswerMaybe
			points = append(points, point)
		}
		if found {
			return d, api.OK
		}
		if open {
			return api.BandDesign{}, api.ErrOpen
		}
		d.Refuted = append(d.Refuted, points...)
	}
	return api.BandDesign{}, api.ErrNone
}

// drawnSearch returns a search that may have a design.
func drawnSearch(r *rand.Rand) api.BandSearch {
	x := choosing(drawnBetween(r, 12000, 40000), r.IntN(4))
	indices := [6]int{14600, 17000, 20000, 23000, 26000, 30000}
	if r.IntN(3) == 0 {
		// On these there are designs of each length.
		x = choosing([4]int{10000, 17778, 22500, 40000}[r.IntN(4)]+r.IntN(50), 1+r.IntN(3), quarters()...)
	}
	for range drawnBetween(r, 1, 3-len(x.Options)) {
		index := indices[r.IntN(6)]
		thick := 15000000 * (1 + r.IntN(2)) / index
		x.Options = append(x.Options, api.LayerBox{Index: just(index), Thick: span(thick, thick+r.IntN(3)*r.IntN(9)*r.IntN(9))})
	}
	x.Demands[0].Wave = span(6000-r.IntN(40), 6000+r.IntN(40))
	x.Demands[0].Sine = span(0, r.IntN(2)*r.IntN(600))
	x.Demands[0].Most = [6]int{20, 100, 200, 400, 800, 1500}[r.IntN(6)]
	if r.IntN(4) == 0 {
		x.Demands[0].Least, x.Demands[0].Most = 2500, 10000
	}
	if r.IntN(3) == 0 {
		second := over(sampleDemand(), just(drawnBetween(r, 4000, 8000)), just(r.IntN(400)))
		second.Share, second.Least, second.Most = r.IntN(2), 0, 10000-r.IntN(3000)
		x.Demands = append(x.Demands, second)
	}
	return x
}

// P4.7, P4.12: designs of any searches, each of which is accepted, and has the fewest layers.
func TestDesignsByTheBook(t *testing.T) {
	r := draws(50)
	lengths, seen := [4]int{}, map[api.Errno]int{}
	for range 2500 {
		x := drawnSearch(r)
		want, errno := bookDesign(x)
		wantDesign(t, "a search", x, want, errno)
		seen[errno]++
		if errno != api.OK {
			continue
		}
		lengths[len(want.Layers)]++
		d, _ := band.LeastDesign(x)
		n, e := band.CheckDesign(x, d)
		wantSame(t, "its design", n, e, len(want.Layers), api.OK)
		for shorter := range len(want.Layers) {
			for _, list := range bookLists(len(x.Options), shorter) {
				if answer, _, _ := bookTask(bookLayered(x, list)); answer != api.AnswerNo {
					t.Fatalf("%v: %v, but %v has the answer %d", x, want, list, answer)
				}
			}
		}
	}
	for n, least := range [4]int{30, 100, 30, 10} {
		wantSeen(t, "designs of a length", lengths[n], least)
	}
	for _, e := range []api.Errno{api.ErrOpen, api.ErrNone} {
		wantSeen(t, "an error of a design", seen[e], 100)
	}
}

// P4.12: of all designs that are accepted none has more layers than another one.
func TestAcceptedDesigns(t *testing.T) {
	r, others := draws(51), 0
	for range 300 {
		x := drawnSearch(r)
		accepted := map[int]bool{}
		var refuted []api.BandPoint
		for length := 0; length <= x.Most; length++ {
			shorter := slices.Clip(refuted)
			for _, list := range bookLists(len(x.Options), length) {
				_, trees, point := bookTask(bookLayered(x, list))
				refuted = append(refuted, point)
				n, e := band.CheckDesign(x, api.BandDesign{Layers: list, Trees: trees, Refuted: shorter})
				if e == api.OK {
					if n != length {
						t.Fatalf("%v: %v has %d layers", x, list, n)
					}
					accepted[n] = true
				} else if trees != nil {
					others++
				}
			}
		}
		if len(accepted) > 1 {
			t.Fatalf("%v: %v", x, accepted)
		}
	}
	wantSeen(t, "lists that keep their demands, but have more layers", others, 80)
}

// twoLayers is a search with its design, which has two layers and three refutations.
func twoLayers() (api.BandSearch, api.BandDesign) {
	x := choosing(22500, 2, quarters()...)
	x.Demands = append(x.Demands, over(reflecting(0, 200), span(5900, 6100), just(0)))
	return x, api.BandDesign{Layers: []int{0, 1}, Trees: [][]int{{0}, {0}}, Refuted: broken(3)}
}

// P4.7: CheckDesign.
func TestCheckDesign(t *testing.T) {
	x, right := twoLayers()
	n, e := band.CheckDesign(x, right)
	wantSame(t, "a design", n, e, 2, api.OK)
	for _, c := range []struct {
		name   string
		change func(d *api.BandDesign)
		errno  api.Errno
	}{
		{"nothing", func(d *api.BandDesign) { *d = api.BandDesign{} }, api.ErrShape},
		{"too many layers", func(d *api.BandDesign) { d.Layers = []int{0, 1, 0} }, api.ErrLarge},
		{"too many layers that are none", func(d *api.BandDesign) { d.Layers = []int{9, 9, 9} }, api.ErrLarge},
		{"an option above", func(d *api.BandDesign) { d.Layers = []int{0, 2} }, api.ErrMissing},
		{"an option below", func(d *api.BandDesign) { d.Layers = []int{-1, 1} }, api.ErrMissing},
		{"the greatest option", func(d *api.BandDesign) { d.Layers = []int{math.MaxInt} }, api.ErrMissing},
		{"the least option", func(d *api.BandDesign) { d.Layers = []int{math.MinInt, 1} }, api.ErrMissing},
		{"an option ahead of no trees", func(d *api.BandDesign) { d.Layers, d.Trees = []int{0, 2}, nil }, api.ErrMissing},
		{"no trees", func(d *api.BandDesign) { d.Trees = nil }, api.ErrShape},
		{"too few trees", func(d *api.BandDesign) { d.Trees = [][]int{{0}} }, api.ErrShape},
		{"too many trees", func(d *api.BandDesign) { d.Trees = [][]int{{0}, {0}, {0}} }, api.ErrShape},
		{"too few trees ahead of a wrong one", func(d *api.BandDesign) { d.Trees = [][]int{{9}} }, api.ErrShape},
		{"no refutations", func(d *api.BandDesign) { d.Refuted = nil }, api.ErrShape},
		{"too few refutations", func(d *api.BandDesign) { d.Refuted = broken(2) }, api.ErrShape},
		{"too many refutations", func(d *api.BandDesign) { d.Refuted = broken(4) }, api.ErrShape},
		{"too few refutations ahead of a wrong tree", func(d *api.BandDesign) { d.Refuted, d.Trees[0] = broken(2), nil }, api.ErrShape},
		{"an empty tree", func(d *api.BandDesign) { d.Trees[1] = nil }, api.ErrShape},
		{"a large tree", func(d *api.BandDesign) { d.Trees[1] = make([]int, 64) }, api.ErrLarge},
		{"a node of no kind", func(d *api.BandDesign) { d.Trees[1] = []int{3} }, api.ErrKind},
		{"a node that cannot be", func(d *api.BandDesign) { d.Trees[1] = []int{2, 0, 0} }, api.ErrBreak},
		{"a node that is left", func(d *api.BandDesign) { d.Trees[0] = []int{0, 0} }, api.ErrShape},
		{"the first tree ahead of the second one", func(d *api.BandDesign) { d.Trees = [][]int{{1}, {3}} }, api.ErrBreak},
		{"a tree ahead of a refutation", func(d *api.BandDesign) { d.Trees[1], d.Refuted[0].Demand = []int{3}, 7 }, api.ErrKind},
		{"layers that break their demands", func(d *api.BandDesign) { d.Layers = []int{1, 0} }, api.ErrProof},
		{"no layers that keep them", func(d *api.BandDesign) { d.Layers, d.Refuted = nil, nil }, api.ErrProof},
		{"one layer that does not keep them", func(d *api.BandDesign) { d.Layers, d.Refuted = []int{0}, broken(1) }, api.ErrProof},
		{"a refutation of no demand", func(d *api.BandDesign) { d.Refuted[2].Demand = 2 }, api.ErrMissing},
		{"a refutation outside", func(d *api.BandDesign) { d.Refuted[0].Wave = 5999 }, api.ErrRange},
		{"a refutation outside, the sine", func(d *api.BandDesign) { d.Refuted[1].Sine = 1 }, api.ErrRange},
		{"the first refutation ahead of the second one", func(d *api.BandDesign) { d.Refuted[0].Wave, d.Refuted[1].Demand = 5999, 2 }, api.ErrRange},
	} {
		_, d := twoLayers()
		c.change(&d)
		n, e := band.CheckDesign(x, d)
		wantSame(t, c.name, n, e, 0, c.errno)
	}
	other := right
	other.Refuted = []api.BandPoint{{Demand: 1, Wave: 5900}, {Demand: 1, Wave: 6100}, {Demand: 1, Wave: 6001}}
	n, e = band.CheckDesign(x, other)
	wantSame(t, "other refutations", n, e, 2, api.OK)
	other.Trees = [][]int{{0}, {1, 0, 1, 0, 0}}
	n, e = band.CheckDesign(x, other)
	wantSame(t, "other trees", n, e, 2, api.OK)
}

// P4.7: a refutation is looked at with the layers of its own list.
func TestRefutationsOfTheirLists(t *testing.T) {
	// The second option alone keeps the demand, the first one and no layers break it.
	x := choosing(40000, 2, quarters()[1], quarters()[0])
	for _, c := range []struct {
		layers []int
		trees  [][]int
		many   int
		errno  api.Errno
	}{
		{[]int{1}, [][]int{{0}}, 1, api.OK},
		{[]int{0}, [][]int{{0}}, 1, api.ErrProof},
		{[]int{1, 1}, [][]int{{0}}, 3, api.ErrProof},
	} {
		_, e := band.CheckDesign(x, api.BandDesign{Layers: c.layers, Trees: c.trees, Refuted: broken(c.many)})
		wantError(t, "a list", e, c.errno)
	}
	// Two layers keep the demand, but so does one of the lists with fewer layers.
	x = choosing(10000, 3, box(20000, 1500), quarters()[0])
	for _, list := range [][]int{{0}, {0, 0}, {1, 1}, {1, 1, 0}} {
		n := len(bookLists(2, 0))
		for length := 1; length < len(list); length++ {
			n += len(bookLists(2, length))
		}
		_, e := band.CheckDesign(x, api.BandDesign{Layers: list, Trees: [][]int{{0}}, Refuted: broken(n)})
		wantError(t, "a list that is not the shortest", e, api.ErrProof)
	}
}
