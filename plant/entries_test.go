package plant_test

import (
	"slices"
	"strconv"
	"strings"
	"testing"

	"etalon/api"
	"etalon/plant"
)

// scene is an entry behind a log in the rich setup: who made it, its words, and what stands behind them at once. The log
// has recipes (r, x1, x2 and so on), versions of r (all of them changes of the first one), and batches (a1, a2 and so on),
// all aborted but the last one if this is open; the first batch has so many parts that there are as many events (e0, e1
// and so on are coated in it, v2, v3 and so on in the others). Behind that come other lines; at the end the shutter may be
// switched off again.
type scene struct {
	by                        string
	words                     []string
	more                      string
	recipes, versions         int
	batches, events, switches int
	open, off                 bool
	lines                     []string
}

// sceneOf returns a scene with a line for its entry, and a recipe.
func sceneOf(line string) scene {
	words := strings.Split(line, " ")
	return scene{by: words[0], words: words[1:], recipes: 1, versions: 1, switches: 2}
}

func (x scene) entry() api.PlantEntry {
	return by(x.by, strings.Join(x.words, " ")+x.more)
}

func (x scene) log() []api.PlantEntry {
	lines := []string{"bob recipe r ar H:500,H:400"}
	for i := 1; i < x.recipes; i++ {
		lines = append(lines, "bob recipe x"+strconv.Itoa(i)+" any L:1")
	}
	for i := 1; i < x.versions; i++ {
		lines = append(lines, "bob change r 1 H:"+strconv.Itoa(i)+",H:400")
	}
	lines = append(lines, []string{"ann switch pump", "ann switch shutter"}[:x.switches]...)
	for i := 1; i <= x.batches; i++ {
		parts := "v" + strconv.Itoa(i)
		if i == 1 {
			parts = strings.Join(names("e", x.events-x.batches+1), " ")
		}
		lines = append(lines, "ann batch a"+strconv.Itoa(i)+" r 1 "+parts)
		if i < x.batches || !x.open {
			lines = append(lines, "ann abort")
		}
	}
	lines = append(lines, x.lines...)
	if x.off {
		lines = append(lines, "ann switch shutter")
	}
	return logOf(lines...)
}

// accepted returns the error of the entry, of Accept and of a desk alike.
func accepted(t *testing.T) func(x scene) (int, api.Errno) {
	return func(x scene) (int, api.Errno) {
		t.Helper()
		return notTold, wantAccepted(t, rich(), x.log(), x.entry())
	}
}

// wantAccepted reports a result of Accept that is wrong, or not that of a desk, and returns the error.
func wantAccepted(t *testing.T, s api.PlantSetup, log []api.PlantEntry, x api.PlantEntry) api.Errno {
	t.Helper()
	wantLog(t, s, log)
	longer, e := plant.Accept(s, log, x)
	if e == api.OK {
		wantSame(t, "the log", longer, e, append(slices.Clone(log), x), api.OK)
	} else {
		wantNone[[]api.PlantEntry](t, "Accept")(longer, e)
	}
	d := deskWith(t, s, log)
	wantErrno(t, "Enter", d.Enter(x), e)
	if e == api.OK {
		log = longer
	}
	wantSame(t, "the log of the desk", d.Log(), api.OK, log, api.OK)
	i, f := plant.CheckLog(s, append(slices.Clone(log), x))
	if e != api.OK && e != api.ErrFull {
		wantSame(t, "CheckLog", i, f, len(log), e)
	}
	return e
}

// deskWith returns a desk into which a log was entered.
func deskWith(t *testing.T, s api.PlantSetup, log []api.PlantEntry) *plant.Desk {
	t.Helper()
	d, e := plant.New(s)
	wantErrno(t, "New", e, api.OK)
	for _, x := range log {
		wantErrno(t, x.Text, d.Enter(x), api.OK)
	}
	return d
}

// wordsOf is a defect that sets words of the entry, from a place on, to others.
func wordsOf(place int, words string, e api.Errno) defect[scene] {
	l := strings.Split(words, " ")
	return defect[scene]{strconv.Quote(words), func(x *scene) { x.words = slices.Concat(x.words[:place], l, x.words[min(len(x.words), place+len(l)):]) }, e, 0}
}

// eachWord returns the defects of one word of the entry.
func eachWord(place int, e api.Errno, words ...string) []defect[scene] {
	var l []defect[scene]
	for _, word := range words {
		l = append(l, defect[scene]{strconv.Quote(word), func(x *scene) {
			if place < len(x.words) {
				x.words[place] = word
			}
		}, e, 0})
	}
	return l
}

// behindDefects returns the defects of what comes ahead of the words behind the first one of an entry that is allowed from
// a role on.
func behindDefects(role int) []defect[scene] {
	var l []defect[scene]
	for _, name := range []string{"eve", "", "ANN", "ann ", "annn", "r", "pump"} {
		l = append(l, defect[scene]{"by " + strconv.Quote(name), func(x *scene) { x.by = name }, api.ErrMissing, 0})
	}
	l = append(l, defect[scene]{"one byte too many", func(x *scene) {
		x.more = " " + strings.Repeat("x", api.MaxPlantEntry-len(strings.Join(x.words, " ")))
	}, api.ErrLarge, 0})
	l = append(l, eachWord(0, api.ErrSyntax, "", "Switch", "switches", "donee", "\n", "devices", "part", "r", "-")...)
	for _, person := range []struct {
		name string
		role int
	}{{"ann", api.RoleOperator}, {"bob", api.RoleEngineer}} {
		if person.role < role {
			l = append(l, defect[scene]{"by " + person.name, func(x *scene) { x.by = person.name }, api.ErrAllowed, 0})
		}
	}
	return l
}

// formDefects returns the defects of the form of an entry with so many words; there may be more, and some are numbers.
func formDefects(words int, more bool, numbers ...int) []defect[scene] {
	var l []defect[scene]
	for i := 1; i < words; i++ {
		l = append(l, defect[scene]{strconv.Itoa(i) + " words", func(x *scene) { x.words = x.words[:min(i, len(x.words))] }, api.ErrSyntax, 0})
		l = append(l, eachWord(i, api.ErrSyntax, "")...)
	}
	l = append(l, defect[scene]{"a blank at the end", func(x *scene) { x.words = append(slices.Clone(x.words), "") }, api.ErrSyntax, 0})
	if !more {
		l = append(l, defect[scene]{"one word more", func(x *scene) { x.words = append(slices.Clone(x.words), "x") }, api.ErrSyntax, 0})
	}
	for _, i := range numbers {
		l = append(l, eachWord(i, api.ErrSyntax, "x", "01", "+1", "-0", "1.0", "1e0", "0x1", "-", "1\n", "\t1", "1234567890", "-1234567890", "0000000001", "99999999999999999999", "٣")...)
	}
	return l
}

// layerDefects returns the defects of the layers of an entry, which begin with a word.
func layerDefects(place int) []defect[scene] {
	long := strings.TrimSuffix(strings.Repeat("H:0000001 ", 201), " ")
	return []defect[scene]{
		wordsOf(place, long, api.ErrLarge),
		wordsOf(place, "H", api.ErrSyntax),
		wordsOf(place, "H:500 x", api.ErrSyntax),
		wordsOf(place, "H:500*1", api.ErrSyntax),
		wordsOf(place, "H:12345678", api.ErrSyntax),
		wordsOf(place, "H:500\n", api.ErrSyntax),
		wordsOf(place, strings.TrimSuffix(strings.Repeat("H:1 ", 21), " "), api.ErrLarge),
		wordsOf(place, "1:500", api.ErrName),
		wordsOf(place, "Z:1000001", api.ErrRange),
		wordsOf(place, "Z:1*0", api.ErrRange),
		wordsOf(place, "Z:1*20 Z:1,Z:1*11~", api.ErrLarge),
		wordsOf(place, "H:500 h:500", api.ErrMissing),
		wordsOf(place, "Z:1*40", api.ErrMissing),
	}
}

// P10.3: each error of an entry of each kind, alone and beside each later one.
func TestEntryErrors(t *testing.T) {
	for _, x := range []struct {
		line           string
		role, switches int
		defects        []defect[scene]
	}{
		{"ann switch pump", api.RoleOperator, 0, slices.Concat(
			formDefects(2, false),
			eachWord(1, api.ErrMissing, "lamps", "Pump", "0", "-", "pump\n", "r"),
			eachWord(1, api.ErrBreak, "shutter"),
		)},
		{"bob recipe q ar H:500", api.RoleEngineer, 2, slices.Concat(
			formDefects(4, true),
			[]defect[scene]{{"ten recipes", func(x *scene) { x.recipes = 10 }, api.ErrFull, 0}},
			eachWord(1, api.ErrName, "1", "-q", "q\n", "é", longName),
			eachWord(1, api.ErrExists, "r"),
			eachWord(2, api.ErrMissing, "AR", "r", "1", "a"),
			layerDefects(3),
		)},
		{"bob change r 1 H:500", api.RoleEngineer, 2, slices.Concat(
			formDefects(4, true, 2),
			eachWord(1, api.ErrMissing, "R", "x", "ar", "1"),
			eachWord(2, api.ErrMissing, "0", "-1", "21", "123456789", "-123456789"),
			[]defect[scene]{{"twenty versions", func(x *scene) { x.versions = 20 }, api.ErrFull, 0}},
			layerDefects(3),
		)},
	} {
		right := func() scene {
			s := sceneOf(x.line)
			s.switches = x.switches
			return s
		}
		wantDefects(t, x.line, right, slices.Concat(behindDefects(x.role), x.defects), accepted(t))
	}
}

// P10.3: the last recipe, version and batch for which there is room.
func TestLastRoom(t *testing.T) {
	for _, x := range []struct {
		line string
		room func(x *scene, count int)
		most int
	}{
		{"bob recipe q ar H:500", func(x *scene, count int) { x.recipes = count }, 10},
		{"bob change r 19 H:500", func(x *scene, count int) { x.versions = count }, 20},
		{"bob merge r 2 19", func(x *scene, count int) {
			x.versions, x.lines = count-1, []string{"bob change r 1 H:500,H:1"}
			x.words[3] = strconv.Itoa(count)
		}, 20},
		{"ann batch b1 r 1 w p", func(x *scene, count int) { x.batches, x.events = count, count }, 20},
	} {
		for count, errno := range map[int]api.Errno{x.most - 1: api.OK, x.most: api.ErrFull} {
			s := sceneOf(x.line)
			x.room(&s, count)
			wantErrno(t, x.line+" behind "+strconv.Itoa(count), wantAccepted(t, rich(), s.log(), s.entry()), errno)
		}
	}
}

// P10.3: each error of a merge, alone and beside each later one.
func TestMergeErrors(t *testing.T) {
	// The versions 1 to 6: 2 and 3 change the second layer, 4 the first one, 5 both of 4, 6 has three layers.
	right := func() scene {
		x := sceneOf("bob merge r 3 4")
		x.lines = []string{"bob change r 1 H:500,H:1", "bob change r 1 H:500,H:2", "bob change r 1 H:1,H:400", "bob change r 4 H:3,H:4", "bob change r 5 H:3,H:4,H:5"}
		return x
	}
	wantDefects(t, "merge", right, slices.Concat(
		behindDefects(api.RoleEngineer),
		formDefects(4, false, 2, 3),
		eachWord(1, api.ErrMissing, "R", "x", "ar", "1"),
		eachWord(2, api.ErrMissing, "0", "-1", "21", "123456789"),
		eachWord(3, api.ErrMissing, "0", "-1", "21", "-123456789"),
		[]defect[scene]{{"twenty versions", func(x *scene) { x.lines = append(x.lines, slices.Repeat([]string{"bob change r 6 H:1"}, 14)...) }, api.ErrFull, 0}},
		[]defect[scene]{
			wordsOf(2, "3 3", api.ErrDouble),
			wordsOf(2, "1 5", api.ErrDouble),
			wordsOf(2, "5 1", api.ErrDouble),
			wordsOf(2, "4 6", api.ErrDouble),
			wordsOf(2, "2 3", api.ErrClash),
			wordsOf(2, "3 2", api.ErrClash),
			wordsOf(2, "2 5", api.ErrClash),
			wordsOf(2, "2 6", api.ErrClash),
		},
	), accepted(t))
}

// P10.3: each error of a batch, alone and beside each later one. A hundred events are as many as there may be.
func TestBatchErrors(t *testing.T) {
	right := func() scene {
		x := sceneOf("ann batch b1 r 1 w p")
		x.batches, x.events = 3, 10
		return x
	}
	events := func(count int) func(x *scene) {
		return func(x *scene) { x.events = count }
	}
	wantDefects(t, "batch", right, slices.Concat(
		behindDefects(api.RoleOperator),
		formDefects(5, true, 3),
		[]defect[scene]{
			{"an open batch", func(x *scene) { x.open = true }, api.ErrBusy, 0},
			{"twenty batches", func(x *scene) { x.batches, x.events = 20, max(x.events, 30) }, api.ErrFull, 0},
		},
		eachWord(1, api.ErrName, "1", "-b", "b\n", "é", longName),
		eachWord(1, api.ErrExists, "a1", "a3"),
		eachWord(2, api.ErrMissing, "R", "x", "ar", "1"),
		eachWord(3, api.ErrMissing, "0", "-1", "2", "123456789"),
		[]defect[scene]{{"a hundred events", events(100), api.ErrLarge, 0}},
		eachWord(4, api.ErrName, "1", "-b", longName),
		eachWord(4, api.ErrState, "e0", "e1", "v2", "v3"),
		[]defect[scene]{{"one event less", events(99), api.ErrLarge, 0}},
		eachWord(5, api.ErrName, "1", "p\n"),
		eachWord(5, api.ErrState, "w", "e0", "v3"),
	), accepted(t))
	x := right()
	x.events = 98
	wantErrno(t, "as many events as there may be", wantAccepted(t, rich(), x.log(), x.entry()), api.OK)
}

// P10.3: each error of a stop, alone and beside each later one.
func TestStopErrors(t *testing.T) {
	right := func() scene {
		x := sceneOf("ann stop 1 380 420")
		x.lines = []string{"ann batch b1 r 1 w p", "ann stop 0 0 1000000"}
		return x
	}
	state := func(name string, lines ...string) defect[scene] {
		return defect[scene]{name, func(x *scene) { x.lines = lines }, api.ErrState, 0}
	}
	wantDefects(t, "stop", right, slices.Concat(
		behindDefects(api.RoleOperator),
		formDefects(4, false, 1, 2, 3),
		eachWord(1, api.ErrSyntax, "12345678", "-12345678"),
		eachWord(2, api.ErrSyntax, "12345678"),
		[]defect[scene]{
			state("no batch"),
			state("all layers are grown", "ann batch b1 r 1 w p", "ann stop 0 1 1", "ann stop 1 1 1"),
			state("a batch that is done", "ann batch b1 r 1 w p", "ann stop 0 1 1", "ann stop 1 1 1", "ann done"),
			state("an aborted batch", "ann batch b1 r 1 w p", "ann stop 0 1 1", "ann abort"),
		},
		eachWord(1, api.ErrRange, "-1", "40", "9999999"),
		eachWord(2, api.ErrRange, "-1", "1000001", "-1000000"),
		eachWord(3, api.ErrRange, "-1", "1000001", "9999999"),
		[]defect[scene]{wordsOf(2, "381 380", api.ErrOrder)},
		eachWord(1, api.ErrGap, "0", "2", "39"),
		[]defect[scene]{{"the shutter is off", func(x *scene) { x.off = true }, api.ErrBreak, 0}},
	), accepted(t))
}

// P10.3: each error of "done" and "abort", alone and beside each later one.
func TestEndErrors(t *testing.T) {
	lines := func(lines ...string) func(x *scene) {
		return func(x *scene) { x.lines = lines }
	}
	for _, x := range []struct {
		line   string
		states []defect[scene]
	}{
		{"ann done", []defect[scene]{{"one layer is not grown", lines("ann batch b1 r 1 w", "ann stop 0 1 1"), api.ErrState, 0}, {"no layer is grown", lines("ann batch b1 r 1 w"), api.ErrState, 0}}},
		{"ann abort", nil},
	} {
		right := func() scene {
			s := sceneOf(x.line)
			s.lines = []string{"ann batch b1 r 1 w", "ann stop 0 1 1", "ann stop 1 1 1"}
			return s
		}
		grown := right().lines
		wantDefects(t, x.line, right, slices.Concat(
			behindDefects(api.RoleOperator),
			formDefects(1, false),
			[]defect[scene]{
				{"no batch", lines(), api.ErrState, 0},
				{"a batch that is done", lines(append(grown, "ann done")...), api.ErrState, 0},
				{"an aborted batch", lines(append(grown, "ann abort")...), api.ErrState, 0},
			},
			x.states,
		), accepted(t))
	}
	for _, l := range [][]string{nil, {"ann stop 0 1 1"}, {"ann stop 0 1 1", "ann stop 1 1 1"}} {
		x := sceneOf("ann abort")
		x.lines = append([]string{"ann batch b1 r 1 w"}, l...)
		wantErrno(t, "aborted behind some layers", wantAccepted(t, rich(), x.log(), x.entry()), api.OK)
	}
}

// readingText is a reading of the chapter's material, on anything.
const readingText = "z 4000 10000 0 -1048576 1048576 -1048576 1048576 -1048576 1048576"

// P10.3: each error of a reading, alone and beside each later one.
func TestMeasureErrors(t *testing.T) {
	right := func() scene {
		x := sceneOf("ann measure b1 " + readingText)
		x.batches, x.events = 1, 1
		x.lines = []string{"ann batch b1 r 1 w", "ann stop 0 1 1", "ann stop 1 1 1", "ann done", "ann batch b2 r 1 p"}
		return x
	}
	readings := func(count int) func(x *scene) {
		return func(x *scene) {
			x.lines = append(x.lines, slices.Repeat([]string{"ann measure b1 " + readingText}, count)...)
		}
	}
	wantDefects(t, "measure", right, slices.Concat(
		behindDefects(api.RoleOperator),
		formDefects(3, true),
		eachWord(1, api.ErrMissing, "B1", "b", "r", "w", "b1\n"),
		eachWord(1, api.ErrState, "a1", "b2"),
		[]defect[scene]{
			{"twenty readings", readings(20), api.ErrFull, 0},
			{"a word less", func(x *scene) { x.words = x.words[:11] }, api.ErrSyntax, 0},
			{"a word more", func(x *scene) { x.words = append(x.words[:12:12], "0") }, api.ErrSyntax, 0},
		},
		eachWord(3, api.ErrSyntax, "12345678", "04000", "x"),
		eachWord(2, api.ErrName, "1", "-", longName),
		eachWord(3, api.ErrRange, "999", "200001"),
		eachWord(5, api.ErrRange, "10000"),
		eachWord(6, api.ErrRange, "-1048577"),
		[]defect[scene]{wordsOf(6, "1 0", api.ErrOrder)},
		eachWord(11, api.ErrRange, "1048577"),
	), accepted(t))
	x := right()
	readings(19)(&x)
	wantErrno(t, "the last reading for which there is room", wantAccepted(t, rich(), x.log(), x.entry()), api.OK)
}

// P10.3: each error of stripping, alone and beside each later one.
func TestStripErrors(t *testing.T) {
	right := func() scene {
		x := sceneOf("ann strip p")
		x.batches, x.events = 1, 2
		x.lines = []string{"ann batch b1 r 1 p t", "ann abort", "ann strip e0"}
		for i := range 3 {
			x.lines = append(x.lines, "ann strip t", "ann batch c"+strconv.Itoa(i)+" r 1 t", "ann abort")
		}
		x.lines = append(x.lines, "ann batch b2 r 1 w o")
		return x
	}
	wantDefects(t, "strip", right, slices.Concat(
		behindDefects(api.RoleOperator),
		formDefects(2, false),
		eachWord(1, api.ErrMissing, "P", "b1", "q", "1", "-", "p\n"),
		eachWord(1, api.ErrBusy, "w", "o"),
		[]defect[scene]{{"a hundred events", func(x *scene) { x.events = 89 }, api.ErrLarge, 0}},
		eachWord(1, api.ErrState, "e0"),
		eachWord(1, api.ErrFull, "t"),
	), accepted(t))
	x := right()
	x.events = 88
	wantErrno(t, "as many events as there may be", wantAccepted(t, rich(), x.log(), x.entry()), api.OK)
}

// refuting is a reading of no reflected light across the plane of incidence: the layers H:500 on 40000 reflect none at all,
// and so what would be read of them cannot be told; of H:250 it can.
const refuting = "z 4000 10000 5000 1048576 1048576 0 0 0 0"

// P10.3: each error of a certificate, alone and beside each later one.
func TestCertifyErrors(t *testing.T) {
	right := func() scene {
		x := sceneOf("cid certify p")
		x.batches, x.events = 1, 2
		x.lines = joined(
			[]string{"ann batch b1 r 1 w p c", "ann stop 0 500 500", "ann stop 1 0 0", "ann done", "cid certify c", "ann strip e1"},
			[]string{"ann batch b2 r 1 n", "ann stop 0 0 0", "ann stop 1 0 0", "ann done"},
			[]string{"bob recipe q dim H:500", "ann batch b3 q 1 m", "ann stop 0 1000 1000", "ann done"},
			[]string{"bob recipe k any H:250", "ann batch b4 k 1 f", "ann stop 0 250 250", "ann done", "ann measure b4 " + refuting},
			[]string{"bob recipe l any K:250", "ann batch b5 l 1 d", "ann stop 0 250 250", "ann done", "ann measure b5 " + strings.Replace(readingText, "4000", "4001", 1)},
			[]string{"ann batch b6 r 1 o"},
		)
		return x
	}
	wantDefects(t, "certify", right, slices.Concat(
		behindDefects(api.RoleChief),
		formDefects(2, false),
		eachWord(1, api.ErrMissing, "P", "b1", "q", "1", "-", "p\n"),
		eachWord(1, api.ErrState, "e0", "e1", "o"),
		eachWord(1, api.ErrDouble, "c"),
		eachWord(1, api.ErrProof, "n", "m", "f", "d"),
	), accepted(t))
	x := right()
	for batch, want := range map[string]int{"b1": api.AnswerYes, "b2": api.AnswerNo, "b3": api.AnswerMaybe, "b4": api.AnswerYes, "b5": api.AnswerMaybe} {
		answer, e := plant.AnswerOf(rich(), x.log(), batch)
		wantSame(t, batch, answer.Answer, e, want, api.OK)
	}
	for batch, want := range map[string]int{"b4": api.AnswerNo, "b5": api.AnswerMaybe} {
		answer, e := plant.ExplainedOf(rich(), x.log(), batch)
		wantSame(t, batch+", its readings", answer, e, want, api.OK)
	}
	x.lines = append(x.lines, "ann measure b1 "+strings.Replace(refuting, "5000", "9000", 1))
	answer, e := plant.ExplainedOf(rich(), x.log(), "b1")
	wantSame(t, "refuted later", answer, e, api.AnswerNo, api.OK)
	wantErrno(t, "refuted now", wantAccepted(t, rich(), x.log(), x.entry()), api.ErrProof)
	wantErrno(t, "certified before", wantAccepted(t, rich(), x.log(), entry("cid certify c")), api.ErrDouble)
}

// P10.3: to which roles each kind is allowed.
func TestRoles(t *testing.T) {
	for _, x := range []struct {
		text  string
		roles int
	}{
		{"switch lamp", api.RoleOperator},
		{"recipe q ar H:1", api.RoleEngineer},
		{"change r 1 H:1", api.RoleEngineer},
		{"merge r 2 4", api.RoleEngineer},
		{"batch b2 r 1 q", api.RoleOperator},
		{"stop 0 1 1", api.RoleOperator},
		{"done", api.RoleOperator},
		{"abort", api.RoleOperator},
		{"measure b1 " + readingText, api.RoleOperator},
		{"strip p", api.RoleOperator},
		{"certify p", api.RoleChief},
	} {
		log := logOf(joined(done(), []string{"ann switch shutter", "ann switch pump", "bob change r 1 H:1", "bob change r 1 H:2", "bob change r 1 H:1"})...)
		switch x.text {
		case "stop 0 1 1":
			log = logOf(opened()...)
		case "done", "abort":
			log = logOf(joined(opened(), []string{"ann stop 0 500 500"})...)
		}
		for role, name := range []string{"ann", "bob", "cid"} {
			errno := api.OK
			if role+1 < x.roles {
				errno = api.ErrAllowed
			}
			wantErrno(t, name+" "+x.text, wantAccepted(t, rich(), log, by(name, x.text)), errno)
		}
		wantErrno(t, "eve "+x.text, wantAccepted(t, rich(), log, by("eve", x.text)), api.ErrMissing)
	}
}

// P10.3: a text has at most so many bytes, and its words too few or too many.
func TestEntryLength(t *testing.T) {
	text := "recipe r any " + strings.Repeat("L:1000000 ", 19) + "L:1000000"
	for extra, errno := range []api.Errno{api.ErrName, api.ErrLarge} {
		layer := strings.Repeat("L", api.MaxStackLine-len(":1")+extra) + ":1"
		wantErrno(t, "layers of many bytes", wantAccepted(t, rich(), nil, by("bob", "recipe r any "+layer)), errno)
	}
	wantErrno(t, "a long text", wantAccepted(t, rich(), nil, by("bob", text)), api.OK)
	for extra, errno := range []api.Errno{api.ErrMissing, api.ErrLarge} {
		long := "strip " + strings.Repeat("p", api.MaxPlantEntry-len("strip ")+extra)
		wantErrno(t, strconv.Itoa(len(long)), wantAccepted(t, rich(), nil, by("ann", long)), errno)
	}
	for _, text := range []string{"", " ", "  ", "\n", "eve", "switch  pump", " switch pump", "switch pump ", "Switch pump", "switch\tpump", "done ", "done  ", " done", "done\n"} {
		wantErrno(t, strconv.Quote(text), wantAccepted(t, rich(), nil, by("ann", text)), api.ErrSyntax)
	}
}
