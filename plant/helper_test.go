package plant_test

import (
	"math"
	"math/rand/v2"
	"reflect"
	"slices"
	"strconv"
	"strings"
	"testing"

	"etalon/api"
	"etalon/band"
	"etalon/plant"
)

// span returns a range.
func span(lo, hi int) api.Range { return api.Range{Lo: lo, Hi: hi} }

// just returns the range of a single number.
func just(n int) api.Range { return span(n, n) }

// demand returns the demand with a text.
func demand(text string) api.BandDemand {
	d, e := band.ParseDemand(text)
	if e != api.OK {
		panic("no demand: " + text)
	}
	return d
}

// antireflex is the demand of the chapter's example.
const antireflex = "reflected s 10000 0 0 4000 4000 0 100"

// product returns a product with demands.
func product(name string, texts ...string) api.PlantProduct {
	x := api.PlantProduct{Name: name}
	for _, text := range texts {
		x.Demands = append(x.Demands, demand(text))
	}
	return x
}

// row returns a table of one row.
func row(name string, wave, index, loss int) api.Glass {
	return table(name, [3]int{wave, index, loss})
}

// table returns a table of rows.
func table(name string, rows ...[3]int) api.Glass {
	g := api.Glass{Name: name, Kind: api.GlassTable}
	for _, x := range rows {
		g.Waves, g.Index, g.Loss = append(g.Waves, x[0]), append(g.Index, float32(x[1])), append(g.Loss, float32(x[2]))
	}
	return g
}

// formula returns a formula.
func formula(name string, a, b int) api.Glass {
	return api.Glass{Name: name, Kind: api.GlassCauchy, Cauchy: [2]int{a, b}}
}

// plain is the setup of the chapter's examples.
func plain() api.PlantSetup {
	return api.PlantSetup{
		People:   []api.PlantPerson{{Name: "ann", Role: api.RoleOperator}, {Name: "bob", Role: api.RoleEngineer}, {Name: "cid", Role: api.RoleChief}},
		Glasses:  []api.Glass{row("H", 4000, 20000, 0)},
		Products: []api.PlantProduct{product("ar", antireflex)},
		Chamber: api.GrowChamber{
			Devices: []string{"pump", "shutter"},
			Rules:   []api.GrowRule{{If: 1, IfOn: true, Then: 0, ThenOn: true}},
		},
		Start:   []bool{false, false},
		Shutter: 1,
		On:      api.Substrate{Index: 40000},
	}
}

// rich is a setup with more of everything. Of its materials H and L have no loss, M always the same one, K one that
// changes, and N is told in a part of the spectrum. Its pump wants the lamp, which is on at the start.
func rich() api.PlantSetup {
	s := plain()
	s.People = append(s.People, api.PlantPerson{Name: "dan", Role: api.RoleChief})
	s.Glasses = []api.Glass{
		table("H", [3]int{3000, 20000, 0}, [3]int{8000, 20000, 0}),
		formula("L", 14500, 0),
		table("M", [3]int{3000, 20000, 100}, [3]int{8000, 19000, 100}),
		table("K", [3]int{3000, 20000, 100}, [3]int{8000, 20000, 200}),
		table("N", [3]int{5000, 20000, 0}, [3]int{6000, 20000, 0}),
	}
	s.Products = []api.PlantProduct{
		product("ar", antireflex),
		product("any", "absorbed p 10000 0 3000 3500 7500 0 10000", "reflected s 10000 0 0 5000 6000 0 10000"),
		product("two", "transmitted s 10000 0 0 4000 4000 9000 10000", antireflex),
		product("dim", "reflected s 10000 0 0 4000 4000 3600 3600", "transmitted s 10000 0 0 4000 4000 0 9999"),
	}
	s.Chamber.Devices = []string{"pump", "shutter", "lamp"}
	s.Chamber.Rules = append(s.Chamber.Rules, api.GrowRule{If: 0, IfOn: true, Then: 2, ThenOn: true})
	s.Start = []bool{false, false, true}
	return s
}

// by returns an entry.
func by(person, text string) api.PlantEntry { return api.PlantEntry{By: person, Text: text} }

// entry returns the entry of a line: its first word made it.
func entry(line string) api.PlantEntry {
	person, text, _ := strings.Cut(line, " ")
	return by(person, text)
}

// logOf returns the log of lines.
func logOf(lines ...string) []api.PlantEntry {
	var log []api.PlantEntry
	for _, line := range lines {
		log = append(log, entry(line))
	}
	return log
}

// joined returns several lists of lines as one.
func joined(lists ...[]string) []string { return slices.Concat(lists...) }

// opened has a recipe, switches the chamber on and opens the batch b1, as in the chapter's first example.
func opened() []string {
	return []string{"bob recipe r ar H:500", "ann switch pump", "ann switch shutter", "ann batch b1 r 1 w p"}
}

// done is the log of the chapter's first example up to the end of the batch b1.
func done() []string { return joined(opened(), []string{"ann stop 0 500 500", "ann done"}) }

// certified is that log with its certificate.
func certified() []string { return joined(done(), []string{"cid certify p"}) }

// coatedWith is a log with a batch b1 of a product, that is done.
func coatedWith(product, layers string, stops ...string) []string {
	l := []string{"bob recipe r " + product + " " + layers, "ann switch pump", "ann switch shutter", "ann batch b1 r 1 w p"}
	for i, stop := range stops {
		l = append(l, "ann stop "+strconv.Itoa(i)+" "+stop)
	}
	return append(l, "ann done")
}

// must returns a result that has no error.
func must[T any](t *testing.T) func(x T, e api.Errno) T {
	return func(x T, e api.Errno) T {
		t.Helper()
		if e != api.OK {
			t.Fatalf("the error %d", e)
		}
		return x
	}
}

// same says whether results are the same; nil and empty lists are, wherever they stand.
func same(a, b any) bool { return alike(reflect.ValueOf(a), reflect.ValueOf(b)) }

func alike(a, b reflect.Value) bool {
	switch a.Kind() {
	case reflect.Slice:
		if a.Len() != b.Len() {
			return false
		}
		for i := range a.Len() {
			if !alike(a.Index(i), b.Index(i)) {
				return false
			}
		}
		return true
	case reflect.Struct:
		for i := range a.NumField() {
			if !alike(a.Field(i), b.Field(i)) {
				return false
			}
		}
		return true
	}
	return reflect.DeepEqual(a.Interface(), b.Interface())
}

// wantSame reports a result or an error that is not the expected one.
func wantSame[T any](t *testing.T, name string, got T, e api.Errno, want T, errno api.Errno) {
	t.Helper()
	if !same(got, want) || e != errno {
		t.Errorf("%s: %v, %d; want %v, %d", name, got, e, want, errno)
	}
}

// wantErrno reports an error that is not the expected one.
func wantErrno(t *testing.T, name string, e, errno api.Errno) {
	t.Helper()
	if e != errno {
		t.Errorf("%s: %d; want %d", name, e, errno)
	}
}

// wantSeen reports that too few results were looked at.
func wantSeen(t *testing.T, name string, seen, least int) {
	t.Helper()
	if seen < least {
		t.Errorf("only %d of %s", seen, name)
	}
}

// wantNone reports a result beside an error.
func wantNone[R any](t *testing.T, name string) func(got R, e api.Errno) {
	return func(got R, e api.Errno) {
		t.Helper()
		if e != api.OK && !reflect.ValueOf(&got).Elem().IsZero() {
			t.Fatalf("%s: %v beside the error %d", name, got, e)
		}
	}
}

// wantLog reports a log that is wrong.
func wantLog(t *testing.T, s api.PlantSetup, log []api.PlantEntry) {
	t.Helper()
	if i, e := plant.CheckLog(s, log); e != api.OK {
		t.Fatalf("the entry %d of the log: %d", i, e)
	}
}

// defect is something wrong with an argument: what makes it wrong, the error, and the number beside this.
type defect[T any] struct {
	name   string
	do     func(x *T)
	errno  api.Errno
	number int
}

// notTold stands for the number of a function that tells none.
const notTold = -1

// isTold says whether a number and an error are those of a defect.
func (d defect[T]) isTold(n int, e api.Errno) bool {
	return (n == d.number || n == notTold) && e == d.errno
}

// wantDefects asks for the error of each defect, and for that of the first one wherever there are two. The defects stand
// in the order of their errors; done last, the first one of two stays.
func wantDefects[T any](t *testing.T, name string, right func() T, defects []defect[T], call func(x T) (int, api.Errno)) {
	t.Helper()
	asked := func(told defect[T], all ...defect[T]) {
		t.Helper()
		x := right()
		for _, d := range slices.Backward(all) {
			d.do(&x)
		}
		if n, e := call(x); !told.isTold(n, e) {
			t.Errorf("%s, %s, the first of %d: %d, %d; want %d, %d", name, told.name, len(all), n, e, told.number, told.errno)
		}
	}
	asked(defect[T]{name: "all right"})
	for i, first := range defects {
		asked(first, first)
		for _, second := range defects[i+1:] {
			asked(first, first, second)
		}
	}
}

// within returns the defects of a part of an argument.
func within[T, P any](name string, part func(x *T) *P, defects []defect[P]) []defect[T] {
	var l []defect[T]
	for _, d := range defects {
		l = append(l, defect[T]{name + ": " + d.name, func(x *T) { d.do(part(x)) }, d.errno, d.number})
	}
	return l
}

// numbered returns defects that are told with a number.
func numbered[T any](number int, defects []defect[T]) []defect[T] {
	l := slices.Clone(defects)
	for i := range l {
		l[i].number = number
	}
	return l
}

// beyond returns the defects of a number that is to be from least to most.
func beyond(least, most int, e api.Errno) []defect[int] {
	var l []defect[int]
	for _, n := range []int{least - 1, most + 1, math.MinInt, math.MaxInt} {
		l = append(l, defect[int]{strconv.Itoa(n), func(x *int) { *x = n }, e, 0})
	}
	return l
}

const longName = "abcdefghijklm"

// wrongNames are texts that are no names.
func wrongNames() []string {
	return []string{"", "1", "-a", "a b", "a_b", "é", "a\n", "a\x00", " a", "a ", "a:1", longName}
}

// nameDefects returns the defects of a name.
func nameDefects(e api.Errno) []defect[string] {
	var l []defect[string]
	for _, name := range wrongNames() {
		l = append(l, defect[string]{strconv.Quote(name), func(x *string) { *x = name }, e, 0})
	}
	return l
}

// lengthen returns a list that is lengthened to a length by what another one has at its end.
func lengthen[T any](l []T, length int) []T {
	return append(slices.Clone(l), slices.Repeat(l[len(l)-1:], length-len(l))...)
}

// draws returns numbers that are the same in every run.
func draws(seed uint64) *rand.Rand { return rand.New(rand.NewPCG(seed, 10)) }

// oneOf returns one of some things.
func oneOf[T any](r *rand.Rand, l ...T) T { return l[r.IntN(len(l))] }
