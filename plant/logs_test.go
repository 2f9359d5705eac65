package plant_test

import (
	"math/rand/v2"
	"slices"
	"strconv"
	"strings"
	"testing"

	"etalon/api"
	"etalon/plant"
)

// P10.3: the state of the chapter's first example, entry by entry.
func TestStateOfExample(t *testing.T) {
	r := api.PlantRecipe{Name: "r", Product: "ar", Versions: []api.PlantVersion{{Layers: layers("H:500")}}}
	open := api.PlantBatch{Name: "b1", Recipe: "r", Version: 1, Parts: []string{"w", "p"}}
	grown, ended := open, open
	grown.Stops, ended.Stops, ended.State = []api.Range{just(500)}, []api.Range{just(500)}, api.BatchDone
	events := []api.PartEvent{{Kind: api.EventWitness, Part: "w", Batch: "b1"}, {Kind: api.EventCoat, Part: "p", Batch: "b1"}}
	recipes := []api.PlantRecipe{r}
	for i, want := range []api.PlantState{
		{Devices: []bool{false, false}},
		{Devices: []bool{false, false}, Recipes: recipes},
		{Devices: []bool{true, false}, Recipes: recipes},
		{Devices: []bool{true, true}, Recipes: recipes},
		{Devices: []bool{true, true}, Recipes: recipes, Batches: []api.PlantBatch{open}, Events: events},
		{Devices: []bool{true, true}, Recipes: recipes, Batches: []api.PlantBatch{grown}, Events: events},
		{Devices: []bool{true, true}, Recipes: recipes, Batches: []api.PlantBatch{ended}, Events: events},
		{Devices: []bool{true, true}, Recipes: recipes, Batches: []api.PlantBatch{ended}, Events: events, Certified: []string{"p"}},
	} {
		s, e := plant.StateOf(plain(), logOf(certified()[:i]...))
		wantSame(t, "behind "+strconv.Itoa(i)+" entries", s, e, want, api.OK)
	}
}

// P10.3: all of the chapter's examples of entries.
func TestEntryExamples(t *testing.T) {
	changed := []string{"bob recipe r ar H:500", "bob change r 1 H:510", "bob change r 1 H:490"}
	for _, x := range []struct {
		name  string
		log   []string
		line  string
		errno api.Errno
	}{
		{"the shutter without the pump", nil, "ann switch shutter", api.ErrBreak},
		{"the pump", nil, "ann switch pump", api.OK},
		{"the shutter then", []string{"ann switch pump"}, "ann switch shutter", api.OK},
		{"the pump off while the shutter is on", opened(), "ann switch pump", api.ErrBreak},
		{"the certificate", done(), "cid certify p", api.OK},
		{"of the witness piece", certified(), "cid certify w", api.OK},
		{"once more", certified(), "cid certify p", api.ErrDouble},
		{"of a layer of 0", coatedWith("ar", "H:500", "0 0"), "cid certify p", api.ErrProof},
		{"a merge", changed, "bob merge r 2 3", api.ErrClash},
		{"ann may not", nil, "ann recipe q ar H:1", api.ErrAllowed},
		{"a part of an open batch is stripped", opened(), "ann strip p", api.ErrBusy},
		{"when it is done", done(), "ann strip p", api.OK},
		{"and certified", append(done(), "ann strip p"), "cid certify p", api.ErrState},
	} {
		wantErrno(t, x.name, wantAccepted(t, plain(), logOf(x.log...), entry(x.line)), x.errno)
	}
	s := must[api.PlantState](t)(plant.StateOf(plain(), logOf(changed...)))
	wantSame(t, "versions", s.Recipes[0].Versions, api.OK, []api.PlantVersion{{Layers: layers("H:500")}, {Layers: layers("H:510"), Parents: []int{1}}, {Layers: layers("H:490"), Parents: []int{1}}}, api.OK)
	common, e := plant.CommonVersion(s.Recipes[0].Versions, 2, 3)
	wantSame(t, "their common version", common, e, 1, api.OK)
}

// P10.3: recipes and their versions.
func TestStateOfRecipes(t *testing.T) {
	log := logOf(
		"bob recipe r ar H:1,L:2*2 L:3,H:4~", "cid recipe q any M:5", "bob change r 1 H:1,L:2,H:9",
		"bob change r 1 H:1,L:2,H:1,L:2,H:4,L:8", "bob change r 1 H:7,L:2,H:1,L:2,H:4,L:3", "bob merge r 4 3", "bob change q 1 M:5", "bob merge r 2 5",
	)
	first := []api.PlantVersion{
		{Layers: layers("H:1,L:2,H:1,L:2,H:4,L:3")},
		{Layers: layers("H:1,L:2,H:9"), Parents: []int{1}},
		{Layers: layers("H:1,L:2,H:1,L:2,H:4,L:8"), Parents: []int{1}},
		{Layers: layers("H:7,L:2,H:1,L:2,H:4,L:3"), Parents: []int{1}},
		{Layers: layers("H:7,L:2,H:1,L:2,H:4,L:8"), Parents: []int{4, 3}},
	}
	s, e := plant.StateOf(rich(), log[:7])
	wantSame(t, "recipes", s.Recipes, e, []api.PlantRecipe{
		{Name: "r", Product: "ar", Versions: first},
		{Name: "q", Product: "any", Versions: []api.PlantVersion{{Layers: layers("M:5")}, {Layers: layers("M:5"), Parents: []int{1}}}},
	}, api.OK)
	i, e := plant.CheckVersions(first)
	wantSame(t, "its versions are right", i, e, 0, api.OK)
	i, e = plant.CheckLog(rich(), log)
	wantSame(t, "not as many layers", i, e, 7, api.ErrClash)
}

// P10.3: batches, what happened to parts, and certificates, in the order in which they came.
func TestStateOfParts(t *testing.T) {
	log := logOf(
		"bob recipe r ar H:500", "cid switch pump", "bob switch shutter", "ann batch b2 r 1 w p", "ann stop 0 499 501", "ann done", "ann measure b2 "+readingText,
		"dan certify p", "cid certify w", "ann batch b1 r 1 q", "ann abort", "ann strip p", "ann strip q", "ann batch b0 r 1 q p", "ann stop 0 500 500", "ann done",
		"cid certify p", "cid certify q", "ann strip w", "ann switch shutter", "ann batch b9 r 1 w",
	)
	r := api.Reading{Name: "z", Wave: 4000, At: api.Incidence{Index: 10000}, N: span(-api.One, api.One), C: span(-api.One, api.One), S: span(-api.One, api.One)}
	s, e := plant.StateOf(rich(), log)
	wantSame(t, "batches", s.Batches, e, []api.PlantBatch{
		{Name: "b2", Recipe: "r", Version: 1, Parts: []string{"w", "p"}, Stops: []api.Range{span(499, 501)}, State: api.BatchDone, Readings: []api.Reading{r}},
		{Name: "b1", Recipe: "r", Version: 1, Parts: []string{"q"}, State: api.BatchAborted},
		{Name: "b0", Recipe: "r", Version: 1, Parts: []string{"q", "p"}, Stops: []api.Range{just(500)}, State: api.BatchDone},
		{Name: "b9", Recipe: "r", Version: 1, Parts: []string{"w"}, State: api.BatchOpen},
	}, api.OK)
	wantSame(t, "events", s.Events, e, []api.PartEvent{
		{Kind: api.EventWitness, Part: "w", Batch: "b2"}, {Kind: api.EventCoat, Part: "p", Batch: "b2"},
		{Kind: api.EventWitness, Part: "q", Batch: "b1"}, {Kind: api.EventStrip, Part: "p"}, {Kind: api.EventStrip, Part: "q"},
		{Kind: api.EventWitness, Part: "q", Batch: "b0"}, {Kind: api.EventCoat, Part: "p", Batch: "b0"},
		{Kind: api.EventStrip, Part: "w"}, {Kind: api.EventWitness, Part: "w", Batch: "b9"},
	}, api.OK)
	wantSame(t, "certified", s.Certified, e, []string{"p", "q"}, api.OK)
	wantSame(t, "devices", s.Devices, e, []bool{true, false, true}, api.OK)
	s, e = plant.StateOf(rich(), log[:18])
	wantSame(t, "certified again, behind another part", s.Certified, e, []string{"w", "p", "q"}, api.OK)
	s, e = plant.StateOf(rich(), log[:12])
	wantSame(t, "one part is stripped", s.Certified, e, []string{"w"}, api.OK)
}

// P10.3: CheckLog, and how many entries a log may have.
func TestCheckLog(t *testing.T) {
	switches := func(count int) []api.PlantEntry { return slices.Repeat(logOf("ann switch pump"), count) }
	for _, x := range []struct {
		name   string
		log    []api.PlantEntry
		number int
		errno  api.Errno
	}{
		{"no entries", nil, 0, api.OK},
		{"an empty list", []api.PlantEntry{}, 0, api.OK},
		{"the chapter's first example", logOf(certified()...), 0, api.OK},
		{"as many as there may be", switches(60), 0, api.OK},
		{"one too many", switches(61), 0, api.ErrLarge},
		{"one too many, the first one wrong", append(logOf("eve done"), switches(60)...), 0, api.ErrLarge},
		{"the first entry", logOf("ann done", "eve done"), 0, api.ErrState},
		{"an empty entry", []api.PlantEntry{{}}, 0, api.ErrMissing},
		{"the last entry", append(switches(58), entry("ann switch shutter")), 58, api.ErrBreak},
		{"one in the middle", logOf(append(opened(), "bob change r 2 H:1", "ann done")...), 4, api.ErrMissing},
	} {
		i, e := plant.CheckLog(plain(), x.log)
		wantSame(t, x.name, i, e, x.number, x.errno)
		s, e := plant.StateOf(plain(), x.log)
		wantErrno(t, x.name+", StateOf", e, x.errno)
		wantNone[api.PlantState](t, x.name)(s, e)
	}
	full := switches(60)
	for _, x := range []api.PlantEntry{entry("ann switch pump"), entry("eve switch pump"), {}} {
		wantErrno(t, "a full log", wantAccepted(t, plain(), full, x), api.ErrFull)
	}
	wantErrno(t, "the last entry", wantAccepted(t, plain(), full[:59], full[59]), api.OK)
	log, e := plant.Accept(plain(), switches(61), entry("ann switch pump"))
	wantSame(t, "a log that is too long", log, e, nil, api.ErrLarge)
	log, e = plant.Accept(plain(), logOf("ann switch shutter"), entry("eve switch pump"))
	wantSame(t, "a wrong log", log, e, nil, api.ErrBreak)
}

// drawnEntry returns an entry that may be right behind a log, or wrong in some way.
func drawnEntry(r *rand.Rand) api.PlantEntry {
	name := func(letter string, count int) string { return letter + strconv.Itoa(r.IntN(count)) }
	count := func() string { return strconv.Itoa(r.IntN(6)) }
	stackText := func() string {
		return oneOf(r, "H:500", "H:500", "H:0", "H:1000", "L:"+count(), "H:500,L:0", "H:500,H:"+count(), "H:"+count()+",H:0", "K:250", "N:1", "M:1,L:2", "Z:1", "H", "H:1 L:2", "H:1*2")
	}
	part := func() string { return oneOf(r, "p0", "p1", "p2", "p3", "p4", "p5", "w", "1") }
	var text string
	switch r.IntN(16) {
	case 0:
		text = "switch " + oneOf(r, "pump", "shutter", "lamp", "door")
	case 1:
		text = "recipe " + oneOf(r, "r0", "r1", "r2", "1") + " " + oneOf(r, "ar", "ar", "any", "two", "dim", "no") + " " + stackText()
	case 2:
		text = "change " + oneOf(r, "r0", "r0", "r1", "r3") + " " + count() + " " + stackText()
	case 3:
		text = "merge " + oneOf(r, "r0", "r0", "r0", "r1") + " " + count() + " " + count()
	case 4, 5, 6:
		text = "batch " + name("b", 12) + " " + name("r", 3) + " " + count() + " " + part()
		for range r.IntN(3) {
			text += " " + part()
		}
	case 7, 8, 9:
		text = "stop " + strconv.Itoa(r.IntN(2)) + " " + oneOf(r, "500 500", "500 500", "0 0", "499 501", "250 250", "0 1000", "2 1")
	case 10:
		text = oneOf(r, "done", "done", "done", "done", "abort")
	case 11:
		text = "measure " + name("b", 12) + " " + oneOf(r, readingText, refuting, strings.Replace(refuting, "5000", "9000", 1), strings.Replace(readingText, "4000", "4500", 1), "z 4000")
	case 12:
		text = "strip " + part()
	default:
		text = "certify " + part()
	}
	if r.IntN(20) == 0 {
		at := r.IntN(len(text) + 1)
		text = text[:at] + oneOf(r, " ", "", "x", "0", "-", "\n") + text[min(len(text), at+r.IntN(3)):]
	}
	return by(oneOf(r, "ann", "bob", "cid", "cid", "cid", "dan", "eve"), text)
}

// helpful is an entry that leads a log on, or nearly so.
func helpful(r *rand.Rand, b book) api.PlantEntry {
	for _, x := range b.batches() {
		if x.State == api.BatchOpen {
			if layers := b.recipe(x.Recipe).Versions[x.Version-1].Layers; len(x.Stops) < len(layers) {
				thick := strconv.Itoa(layers[len(x.Stops)].Thick)
				return by("ann", "stop "+strconv.Itoa(len(x.Stops))+" "+thick+" "+thick)
			}
			return by("ann", "done")
		}
	}
	anyVersion := func() string { return strconv.Itoa(1 + r.IntN(max(1, len(b.versions("r0"))))) }
	switch r.IntN(6) {
	case 0:
		return by("bob", "change r0 "+anyVersion()+" "+oneOf(r, "H:500", "H:0", "H:1,H:500", "H:2,H:500", "H:0,H:499"))
	case 1:
		return by("bob", "merge r0 "+anyVersion()+" "+anyVersion())
	case 2:
		return by("ann", "batch b"+strconv.Itoa(len(b.batches()))+" r0 "+anyVersion()+" "+oneOf(r, "p0", "p1", "p2", "p3")+" "+oneOf(r, "w", "p4", "p5"))
	}
	if events := b.events(); len(events) > 0 {
		return by("cid", oneOf(r, "certify ", "certify ", "strip ")+oneOf(r, events...).Part)
	}
	return drawnEntry(r)
}

// drawnLog returns a right log, and tells of each entry that was tried for it.
func drawnLog(r *rand.Rand, s api.PlantSetup, most int, tried func(b book, x api.PlantEntry, e api.Errno)) []api.PlantEntry {
	b := book{PlantSetup: s}
	first := logOf("cid switch pump", "cid switch shutter", "cid recipe r0 "+oneOf(r, "ar", "two", "any", "dim")+" "+oneOf(r, "H:500", "H:500", "H:0,H:500", "K:1", "H:250"))
	for i := range 150 {
		if len(b.log) == most {
			break
		}
		x := drawnEntry(r)
		if i < len(first) {
			x = first[i]
		} else if r.IntN(3) == 0 {
			x = helpful(r, b)
		}
		e := b.errno(x)
		tried(b, x, e)
		if e == api.OK {
			b.log = append(slices.Clip(b.log), x)
		}
	}
	return b.log
}

// P10.3, P10.6, P10.8, P10.12: the errors of all kinds of entries behind all kinds of logs are those of the definitions, of
// Accept, of CheckLog and of a desk alike; so are the states, and the answers to all questions.
func TestDrawnLogs(t *testing.T) {
	r := draws(1)
	seen, certified := map[api.Errno]int{}, 0
	for range 150 {
		s := rich()
		d, _ := plant.New(s)
		log := drawnLog(r, s, 60, func(b book, x api.PlantEntry, e api.Errno) {
			seen[e]++
			wantErrno(t, x.By+": "+strconv.Quote(x.Text), d.Enter(x), e)
			if r.IntN(10) == 0 {
				wantErrno(t, strconv.Quote(x.Text), wantAccepted(t, s, b.log, x), e)
			}
		})
		b := book{s, log}
		wantSame(t, "the log of the desk", d.Log(), api.OK, log, api.OK)
		state, e := plant.StateOf(s, log)
		wantSame(t, "StateOf", state, e, b.state(), api.OK)
		certified += len(state.Certified)
		wantTold(t, b, d)
		if t.Failed() {
			t.Fatalf("%q", log)
		}
	}
	for _, e := range []api.Errno{
		api.OK, api.ErrMissing, api.ErrSyntax, api.ErrAllowed, api.ErrBreak, api.ErrName, api.ErrExists, api.ErrDouble, api.ErrClash,
		api.ErrBusy, api.ErrState, api.ErrOrder, api.ErrGap, api.ErrProof,
	} {
		wantSeen(t, "the error "+strconv.Itoa(int(e)), seen[e], 20)
	}
	wantSeen(t, "certified parts", certified, 60)
}

// wantTold asks all kinds of questions.
func wantTold(t *testing.T, b book, d *plant.Desk) {
	t.Helper()
	questions := []string{"devices", "part w", "part q", "recipe r0", "batch"}
	for i := range 6 {
		n := strconv.Itoa(i)
		questions = append(questions, "part p"+n, "recipe r0 "+n, "recipe r1 "+n, "recipe r2 "+n)
	}
	for i := range 13 {
		questions = append(questions, "batch b"+strconv.Itoa(i))
	}
	for _, question := range questions {
		want, errno := b.told(question)
		text, e := d.Ask(question)
		wantSame(t, question, text, e, want, errno)
		text, e = plant.Ask(b.PlantSetup, b.log, question)
		wantSame(t, question, text, e, want, errno)
	}
	for _, x := range b.batches() {
		answer, e := plant.AnswerOf(b.PlantSetup, b.log, x.Name)
		wantSame(t, "AnswerOf "+x.Name, answer, e, b.answer(x), api.OK)
		explained, e := plant.ExplainedOf(b.PlantSetup, b.log, x.Name)
		wantSame(t, "ExplainedOf "+x.Name, explained, e, b.explained(x), api.OK)
	}
}
