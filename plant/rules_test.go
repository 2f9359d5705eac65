package plant_test

import (
	"math"
	"math/rand/v2"
	"reflect"
	"slices"
	"strings"
	"testing"

	"etalon/api"
	"etalon/plant"
)

// odd returns ints at all kinds of ends.
func odd(r *rand.Rand) func() int {
	l := []int{math.MinInt, math.MinInt + 1, -1 << 32, -2, -1, 0, 1, 2, 3, 4, 19, 20, 21, 39, 40, 41, 999, 1000, 4000, 4999, 5000, 80000, 80001, 1000000, 1000001, 1 << 32, math.MaxInt - 1, math.MaxInt}
	return func() int { return l[r.IntN(len(l))] }
}

// oddSetup returns the rich setup, or one that is wrong in some way.
func oddSetup(r *rand.Rand) api.PlantSetup {
	s := banded()
	if defects := setupDefects(); r.IntN(4) == 0 {
		s = rich()
		defects[r.IntN(len(defects))].do(&s)
	}
	return s
}

// oddText returns a text that is made of words of entries and questions.
func oddText(r *rand.Rand) string {
	words := []string{
		"switch", "recipe", "change", "merge", "batch", "stop", "done", "abort", "measure", "strip", "certify", "part", "devices", "r", "b1", "p", "w", "ar", "pump", "shutter",
		"H:500", "L:1*2", "0", "1", "2", "-1", "999999999", "9999999999", "", "\n", "\x00", "é", "500", strings.Repeat("x", 3000), readingText,
	}
	l := []string{words[r.IntN(14)]}
	for range r.IntN(6) {
		l = append(l, oneOf(r, words...))
	}
	return strings.Join(l, " ")
}

// oddLog returns a log that is right, or wrong at its end, or too long.
func oddLog(r *rand.Rand) []api.PlantEntry {
	log := logOf(oneOf(r, nil, opened(), done(), certified())...)
	for range r.IntN(3) {
		log = append(log, by(oneOf(r, "ann", "bob", "cid", "eve", ""), oddText(r)))
	}
	if r.IntN(20) == 0 {
		log = slices.Repeat(append(log, api.PlantEntry{}), 61)
	}
	return log
}

// R2: no setups, logs, entries and questions make a function panic, and beside an error stands the zero value.
func TestNoPanicOfLogs(t *testing.T) {
	r := draws(90)
	for range 4000 {
		s, log, x := oddSetup(r), oddLog(r), by(oneOf(r, "ann", "bob", "cid", "eve", "", "a b"), oddText(r))
		name := oneOf(r, "b1", "p", "w", "r", "", "x")
		plant.CheckSetup(s)
		plant.CheckLog(s, log)
		wantNone[[]api.PlantEntry](t, "Accept")(plant.Accept(s, log, x))
		wantNone[api.PlantState](t, "StateOf")(plant.StateOf(s, log))
		wantNone[[]api.BandTask](t, "TasksOf")(plant.TasksOf(s, log, name))
		wantNone[api.PlantAnswer](t, "AnswerOf")(plant.AnswerOf(s, log, name))
		wantNone[int](t, "ExplainedOf")(plant.ExplainedOf(s, log, name))
		wantNone[api.PlantCertificate](t, "CertificateOf")(plant.CertificateOf(s, log, name))
		wantNone[string](t, "Ask")(plant.Ask(s, log, x.Text))
		wantNone[int](t, "Seal")(plant.Seal(append(log, x)))
		wantNone[string](t, "Journal")(plant.Journal(append(log, x)))
		d, e := plant.New(s)
		wantNone[*plant.Desk](t, "New")(d, e)
		for _, x := range log {
			d.Enter(x)
		}
		wantNone[string](t, "Ask of a desk")(d.Ask(x.Text))
		d.Log()
	}
}

// R2: no versions, layers, certificates and journals make a function panic, and beside an error stands the zero value.
func TestNoPanicOfOthers(t *testing.T) {
	r := draws(91)
	n := odd(r)
	for range 20000 {
		var l []api.PlantVersion
		for range r.IntN(6) {
			l = append(l, version(oneOf(r, nil, []int{1}, []int{len(l)}, []int{1, 2}, []int{2, 1}, []int{n()}, []int{n(), n()}, []int{1, 1, 1})...))
		}
		plant.CheckVersions(l)
		wantNone[int](t, "CommonVersion")(plant.CommonVersion(l, n(), n()))
		lists := [][]api.StackLayer{nil, layers("A:1"), layers("A:1,B:2"), layers("A:1,B:3"), many(40), many(41), {{}, {Name: "\x00", Thick: n()}}}
		merged, i, e := plant.MergedLayers(oneOf(r, lists...), oneOf(r, lists...), oneOf(r, lists...))
		wantNone[[]api.StackLayer](t, "MergedLayers")(merged, e)
		if e != api.ErrClash && i != 0 {
			t.Errorf("MergedLayers: %d beside %d", i, e)
		}
		journal := lined(nil, "a", oddText(r)) + oddText(r) + "\n"
		log, size, e := plant.Recover(journal[min(len(journal), r.IntN(3)):])
		if e != api.OK || size > len(journal) || len(log) > 2 {
			t.Errorf("Recover of %q: %v, %d, %d", journal, log, size, e)
		}
	}
	right := must[api.PlantCertificate](t)(plant.CertificateOf(banded(), wideLog(), "p"))
	for range 2000 {
		c := copyOf(right)
		switch r.IntN(6) {
		case 0:
			c.Product = oneOf(r, "ar", "any", "two", "dim", "")
		case 1:
			c.Layers = append(c.Layers, api.StackLayer{Name: oneOf(r, "H", "K", "N", ""), Thick: n()})
		case 2:
			c.Thick = append(c.Thick, span(n(), n()))
		case 3:
			c.Trees = append(c.Trees, []int{n()})
		case 4:
			c.Thick[r.IntN(len(c.Thick))] = span(n(), n())
		}
		c.Trees[0] = oneOf(r, c.Trees[0], nil, []int{n()}, []int{n(), n(), n()}, make([]int, 64))
		wantNone[int](t, "CheckCertificate")(plant.CheckCertificate(oddSetup(r), c))
	}
}

// roomy returns a list with room behind its end.
func roomy[T any](l []T) []T {
	var zero T
	return append(slices.Clone(l), zero, zero, zero)[:len(l)]
}

// behind returns a list with what stands in the room behind its end.
func behind[T any](l []T) []T { return l[:cap(l)] }

// spoil writes into a list, and behind its end.
func spoil[T any](l []T) {
	clear(l)
	clear(behind(l))
	var zero T
	_ = append(l, zero)
}

// spoilSetup writes into all lists of a setup.
func spoilSetup(s *api.PlantSetup) {
	for _, g := range s.Glasses {
		spoil(g.Waves)
		spoil(g.Index)
		spoil(g.Loss)
	}
	for _, x := range s.Products {
		spoil(x.Demands)
	}
	spoil(s.People)
	spoil(s.Glasses)
	spoil(s.Products)
	spoil(s.Chamber.Devices)
	spoil(s.Chamber.Rules)
	spoil(s.Start)
}

// roomySetup returns a setup whose lists have room behind their ends.
func roomySetup(s api.PlantSetup) api.PlantSetup {
	for i, g := range s.Glasses {
		s.Glasses[i].Waves, s.Glasses[i].Index, s.Glasses[i].Loss = roomy(g.Waves), roomy(g.Index), roomy(g.Loss)
	}
	for i, x := range s.Products {
		s.Products[i].Demands = roomy(x.Demands)
	}
	s.People, s.Glasses, s.Products, s.Start = roomy(s.People), roomy(s.Glasses), roomy(s.Products), roomy(s.Start)
	s.Chamber.Devices, s.Chamber.Rules = roomy(s.Chamber.Devices), roomy(s.Chamber.Rules)
	return s
}

// setupBehind returns all lists of a setup with what stands in the room behind their ends.
func setupBehind(s api.PlantSetup) []any {
	l := []any{behind(s.People), behind(s.Glasses), behind(s.Products), behind(s.Start), behind(s.Chamber.Devices), behind(s.Chamber.Rules)}
	for _, g := range s.Glasses {
		l = append(l, behind(g.Waves), behind(g.Index), behind(g.Loss))
	}
	for _, x := range s.Products {
		l = append(l, behind(x.Demands))
	}
	return l
}

// arguments is one argument of each kind.
type arguments struct {
	setup         api.PlantSetup
	log           []api.PlantEntry
	versions      []api.PlantVersion
	base, a, b    []api.StackLayer
	certificate   api.PlantCertificate
	first, second []int
}

// anyArguments returns right arguments, whose lists have room behind their ends.
func anyArguments(t *testing.T) arguments {
	x := arguments{
		setup: roomySetup(banded()), log: roomy(wideLog()), base: roomy(layers("A:1,B:2")), a: roomy(layers("A:5,B:2")), b: roomy(layers("A:1,B:7")),
		first: roomy([]int{1}), second: roomy([]int{2, 1}),
	}
	x.versions = roomy(versions(version(), version(x.first...), version(x.second...)))
	x.versions[2].Parents = x.second
	c := must[api.PlantCertificate](t)(plant.CertificateOf(banded(), wideLog(), "p"))
	c.Layers, c.Thick, c.Trees = roomy(c.Layers), roomy(c.Thick), roomy(c.Trees)
	for i, tree := range c.Trees {
		c.Trees[i] = roomy(tree)
	}
	x.certificate = c
	return x
}

// allBehind returns all lists of arguments with what stands in the room behind their ends.
func (x arguments) allBehind() []any {
	l := append(setupBehind(x.setup), behind(x.log), behind(x.versions), behind(x.base), behind(x.a), behind(x.b), behind(x.first), behind(x.second))
	c := x.certificate
	l = append(l, behind(c.Layers), behind(c.Thick), behind(c.Trees))
	for _, tree := range c.Trees {
		l = append(l, behind(tree))
	}
	return l
}

// spoilState writes into all lists of a state.
func spoilState(s api.PlantState) {
	for _, r := range s.Recipes {
		for _, v := range r.Versions {
			spoil(v.Layers)
			spoil(v.Parents)
		}
		spoil(r.Versions)
	}
	for _, b := range s.Batches {
		spoil(b.Parts)
		spoil(b.Stops)
		spoil(b.Readings)
	}
	spoil(s.Devices)
	spoil(s.Recipes)
	spoil(s.Batches)
	spoil(s.Events)
	spoil(s.Certified)
}

// R3, R4: no function writes into its arguments, also where a list has room behind its end; results share no memory with
// them, nor with those of another call, which are the same.
func TestArgumentsStay(t *testing.T) {
	x, want := anyArguments(t), anyArguments(t)
	state := must[api.PlantState](t)(plant.StateOf(banded(), wideLog()))
	tasks := must[[]api.BandTask](t)(plant.TasksOf(banded(), wideLog(), "b1"))
	for range 2 {
		plant.CheckSetup(x.setup)
		plant.CheckLog(x.setup, x.log)
		plant.CheckVersions(x.versions)
		plant.CommonVersion(x.versions, 2, 3)
		plant.AnswerOf(x.setup, x.log, "b1")
		plant.ExplainedOf(x.setup, x.log, "b1")
		plant.Ask(x.setup, x.log, "batch b1")
		plant.Seal(x.log)
		plant.Journal(x.log)
		for _, lists := range [][3][]api.StackLayer{{x.base, x.a, x.b}, {x.base, x.base, x.b}, {x.base, x.a, x.base}, {x.base, x.a, x.a}} {
			merged, _, e := plant.MergedLayers(lists[0], lists[1], lists[2])
			wantErrno(t, "MergedLayers", e, api.OK)
			spoil(merged)
		}
		log, e := plant.Accept(x.setup, x.log, entry("cid certify w"))
		wantSame(t, "Accept", log, e, append(wideLog(), entry("cid certify w")), api.OK)
		spoil(log)
		s, e := plant.StateOf(x.setup, x.log)
		wantSame(t, "StateOf", s, e, state, api.OK)
		spoilState(s)
		l, e := plant.TasksOf(x.setup, x.log, "b1")
		wantSame(t, "TasksOf", l, e, tasks, api.OK)
		for _, task := range l {
			spoil(task.Demands)
			spoil(task.Layers)
		}
		spoil(l)
		c, e := plant.CertificateOf(x.setup, x.log, "p")
		wantSame(t, "CertificateOf", c, e, want.certificate, api.OK)
		spoil(c.Layers)
		spoil(c.Thick)
		for _, tree := range c.Trees {
			spoil(tree)
		}
		spoil(c.Trees)
		_, e = plant.CheckCertificate(x.setup, x.certificate)
		wantErrno(t, "CheckCertificate", e, api.OK)
		d := deskWith(t, x.setup, x.log)
		spoil(d.Log())
		wantSame(t, "Log", d.Log(), api.OK, wideLog(), api.OK)
	}
	if !reflect.DeepEqual(x.allBehind(), want.allBehind()) {
		t.Errorf("%v; want %v", x.allBehind(), want.allBehind())
	}
}

// R3: the state of no entries shares no memory with its setup.
func TestStartStays(t *testing.T) {
	s := rich()
	for range 2 {
		state, e := plant.StateOf(s, nil)
		wantSame(t, "StateOf", state, e, api.PlantState{Devices: []bool{false, false, true}}, api.OK)
		spoilState(state)
	}
}

// listsOf returns all lists of a value, those in lists too.
func listsOf(v reflect.Value) []reflect.Value {
	var l []reflect.Value
	switch v.Kind() {
	case reflect.Slice:
		l = append(l, v)
		for i := range v.Len() {
			l = append(l, listsOf(v.Index(i))...)
		}
	case reflect.Struct:
		for i := range v.NumField() {
			l = append(l, listsOf(v.Field(i))...)
		}
	}
	return l
}

// wantApart asks whether no two lists of a result have memory in common, also behind their ends.
func wantApart(t *testing.T, name string, result any) {
	t.Helper()
	lists := listsOf(reflect.ValueOf(result))
	for i, a := range lists {
		for _, b := range lists[:i] {
			if a.Cap() == 0 || b.Cap() == 0 {
				continue
			}
			from, other := a.Pointer(), b.Pointer()
			if from < other+uintptr(b.Cap())*b.Type().Elem().Size() && other < from+uintptr(a.Cap())*a.Type().Elem().Size() {
				t.Errorf("%s: %v and %v share memory", name, a, b)
			}
		}
	}
}

// R3: the lists of one result share no memory.
func TestListsApart(t *testing.T) {
	log := append(askedLog(), logOf(
		"ann measure b1 "+readingText, "bob change r 1 H:250*2", "bob change r 1 H:250,H:1", "bob merge r 3 4", "bob change r 3 H:250*2",
	)...)
	wantLog(t, rich(), log)
	wantApart(t, "StateOf", must[api.PlantState](t)(plant.StateOf(rich(), log)))
	wantApart(t, "TasksOf", must[[]api.BandTask](t)(plant.TasksOf(rich(), log, "b1")))
	wantApart(t, "CertificateOf", must[api.PlantCertificate](t)(plant.CertificateOf(rich(), log, "p")))
	r := draws(92)
	for range 20 {
		log := drawnLog(r, rich(), 60, func(book, api.PlantEntry, api.Errno) {})
		wantApart(t, "StateOf", must[api.PlantState](t)(plant.StateOf(rich(), log)))
	}
}

// R5: a nil list and an empty one are the same.
func TestEmptyLists(t *testing.T) {
	empty := api.PlantSetup{
		People: []api.PlantPerson{}, Glasses: []api.Glass{}, Products: []api.PlantProduct{},
		Chamber: api.GrowChamber{Devices: []string{"s"}, Rules: []api.GrowRule{}}, Start: []bool{false}, On: api.Substrate{Index: 10000},
	}
	i, e := plant.CheckSetup(empty)
	wantSame(t, "empty lists", i, e, 0, api.OK)
	empty.Chamber.Devices, empty.Start = []string{}, []bool{}
	i, e = plant.CheckSetup(empty)
	wantSame(t, "no devices", i, e, 0, api.ErrMissing)
	for _, log := range [][]api.PlantEntry{nil, {}} {
		longer, e := plant.Accept(plain(), log, entry("ann switch pump"))
		wantSame(t, "Accept", longer, e, logOf("ann switch pump"), api.OK)
		s, e := plant.StateOf(plain(), log)
		wantSame(t, "StateOf", s, e, api.PlantState{Devices: []bool{false, false}}, api.OK)
	}
	for _, l := range [][]api.StackLayer{nil, {}} {
		merged, i, e := plant.MergedLayers(l, nil, layers("A:1"))
		wantSame(t, "a is base", merged, e, layers("A:1"), api.OK)
		merged, i, e = plant.MergedLayers(l, layers("A:1"), []api.StackLayer{})
		wantSame(t, "b is base", merged, e, layers("A:1"), api.OK)
		wantSame(t, "the number", i, e, 0, api.OK)
	}
	for _, parents := range [][]int{nil, {}} {
		i, e := plant.CheckVersions(versions(api.PlantVersion{Parents: parents}, api.PlantVersion{Parents: parents}))
		wantSame(t, "no parents", i, e, 1, api.ErrShape)
	}
	for _, trees := range [][][]int{{nil}, {{}}} {
		c := exampleCertificate()
		c.Trees = trees
		n, e := plant.CheckCertificate(plain(), c)
		wantSame(t, "an empty tree", n, e, 0, api.ErrShape)
	}
}

// R6: a loss of -0 is 0.
func TestMinusZero(t *testing.T) {
	s := plain()
	s.Glasses[0].Loss[0] = float32(math.Copysign(0, -1))
	want := must[[]api.BandTask](t)(plant.TasksOf(plain(), logOf(done()...), "b1"))
	tasks, e := plant.TasksOf(s, logOf(done()...), "b1")
	wantSame(t, "TasksOf", tasks, e, want, api.OK)
	c, e := plant.CertificateOf(s, logOf(certified()...), "p")
	wantSame(t, "CertificateOf", c, e, exampleCertificate(), api.OK)
}
