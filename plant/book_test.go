package plant_test

import (
	"slices"
	"strconv"
	"strings"

	"etalon/api"
	"etalon/band"
	"etalon/fit"
	"etalon/glass"
	"etalon/grow"
	"etalon/meter"
	"etalon/stack"
)

// book finds everything once more, straight from the chapter's definitions: for each thing that is asked, all entries of a
// right log are gone through.
type book struct {
	api.PlantSetup
	log []api.PlantEntry
}

// each calls a function with the words of all entries of some kinds.
func (b book) each(kinds string, call func(words []string)) {
	for _, x := range b.log {
		words := strings.Split(x.Text, " ")
		if slices.Contains(strings.Fields(kinds), words[0]) {
			call(words)
		}
	}
}

// number reads a number of at most nine digits.
func number(word string) (int, bool) {
	n, err := strconv.Atoi(word)
	return n, err == nil && strconv.Itoa(n) == word && n > -1000000000 && n < 1000000000
}

// must9 is the number of a word that is one.
func must9(word string) int {
	n, ok := number(word)
	if !ok {
		panic("no number: " + word)
	}
	return n
}

// devices returns which devices are on.
func (b book) devices() []bool {
	state := slices.Clone(b.Start)
	b.each("switch", func(words []string) {
		i := slices.Index(b.Chamber.Devices, words[1])
		state[i] = !state[i]
	})
	return state
}

// layersOf returns the layers of the words of a text.
func (b book) layersOf(words []string) ([]api.StackLayer, api.Errno) {
	parts, e := stack.ParseStack(strings.Join(words, " "))
	if e != api.OK {
		return nil, e
	}
	layers, _ := stack.Unrolled(parts)
	for _, x := range layers {
		if !slices.ContainsFunc(b.Glasses, func(g api.Glass) bool { return g.Name == x.Name }) {
			return nil, api.ErrMissing
		}
	}
	return layers, api.OK
}

// recipes returns all recipes.
func (b book) recipes() []api.PlantRecipe {
	var l []api.PlantRecipe
	b.each("recipe", func(words []string) {
		l = append(l, api.PlantRecipe{Name: words[1], Product: words[2], Versions: b.versions(words[1])})
	})
	return l
}

// versions returns the versions of a recipe.
func (b book) versions(recipe string) []api.PlantVersion {
	var l []api.PlantVersion
	b.each("recipe change merge", func(words []string) {
		if words[1] != recipe {
			return
		}
		var v api.PlantVersion
		switch words[0] {
		case "merge":
			v.Parents = []int{must9(words[2]), must9(words[3])}
			of := func(n int) []api.StackLayer { return l[n-1].Layers }
			v.Layers, _, _ = bookMerged(of(bookCommon(l, v.Parents[0], v.Parents[1])), of(v.Parents[0]), of(v.Parents[1]))
		case "change":
			v.Parents = []int{must9(words[2])}
			fallthrough
		default:
			v.Layers, _ = b.layersOf(words[3:])
		}
		l = append(l, v)
	})
	return l
}

// batches returns all batches.
func (b book) batches() []api.PlantBatch {
	var l []api.PlantBatch
	b.each("batch stop done abort measure", func(words []string) {
		last := len(l) - 1
		switch words[0] {
		case "batch":
			l = append(l, api.PlantBatch{Name: words[1], Recipe: words[2], Version: must9(words[3]), Parts: words[4:]})
		case "stop":
			l[last].Stops = append(l[last].Stops, span(must9(words[2]), must9(words[3])))
		case "done":
			l[last].State = api.BatchDone
		case "abort":
			l[last].State = api.BatchAborted
		case "measure":
			i := slices.IndexFunc(l, func(x api.PlantBatch) bool { return x.Name == words[1] })
			r, _ := meter.ParseReading(strings.Join(words[2:], " "))
			l[i].Readings = append(l[i].Readings, r)
		}
	})
	return l
}

// events returns the events of all parts.
func (b book) events() []api.PartEvent {
	var l []api.PartEvent
	b.each("batch strip", func(words []string) {
		if words[0] == "strip" {
			l = append(l, api.PartEvent{Kind: api.EventStrip, Part: words[1]})
			return
		}
		for i, part := range words[4:] {
			l = append(l, api.PartEvent{Kind: []int{api.EventWitness, api.EventCoat}[min(i, 1)], Part: part, Batch: words[1]})
		}
	})
	return l
}

// certified returns the parts that are certified.
func (b book) certified() []string {
	var l []string
	b.each("certify strip", func(words []string) {
		l = slices.DeleteFunc(l, func(part string) bool { return part == words[1] })
		if words[0] == "certify" {
			l = append(l, words[1])
		}
	})
	return l
}

func (b book) state() api.PlantState {
	return api.PlantState{Devices: b.devices(), Recipes: b.recipes(), Batches: b.batches(), Events: b.events(), Certified: b.certified()}
}

// recipe returns the recipe with a name, of no name if there is none.
func (b book) recipe(name string) api.PlantRecipe {
	for _, r := range b.recipes() {
		if r.Name == name {
			return r
		}
	}
	return api.PlantRecipe{}
}

// batch returns the batch with a name, of no name if there is none.
func (b book) batch(name string) api.PlantBatch {
	for _, x := range b.batches() {
		if x.Name == name {
			return x
		}
	}
	return api.PlantBatch{}
}

// part returns the batch that a part is coated in, how often it was stripped, and whether an event is its.
func (b book) part(name string) (batch string, strips int, there bool) {
	for _, x := range b.events() {
		if x.Part != name {
			continue
		}
		batch, there = x.Batch, true
		if x.Kind == api.EventStrip {
			strips++
		}
	}
	return batch, strips, there
}

// boxes returns the boxes of a batch over wavelengths, and whether they can be made.
func (b book) boxes(x api.PlantBatch, waves api.Range) ([]api.LayerBox, api.Errno) {
	var l []api.LayerBox
	for i, layer := range b.recipe(x.Recipe).Versions[x.Version-1].Layers {
		thick := just(layer.Thick)
		if i < len(x.Stops) {
			thick = x.Stops[i]
		}
		g, _ := glass.Find(b.Glasses, layer.Name)
		told, e := glass.Between(b.Glasses[g], waves)
		if e != api.OK {
			return nil, e
		}
		if told[1].Lo < told[1].Hi {
			return nil, api.ErrUnit
		}
		l = append(l, api.LayerBox{Index: told[0], Thick: thick, Loss: told[1].Hi})
	}
	return l, api.OK
}

// demands returns the demands on a batch.
func (b book) demands(x api.PlantBatch) []api.BandDemand {
	for _, p := range b.Products {
		if p.Name == b.recipe(x.Recipe).Product {
			return p.Demands
		}
	}
	return nil
}

// answer returns the answer of a batch.
func (b book) answer(x api.PlantBatch) api.PlantAnswer {
	maybe := false
	for i, d := range b.demands(x) {
		l, e := b.boxes(x, d.Wave)
		if e != api.OK {
			maybe = true
			continue
		}
		answer, _, point, e := band.Answer(api.BandTask{Demands: []api.BandDemand{d}, Layers: l, On: b.On})
		if e == api.OK && answer == api.AnswerNo {
			return api.PlantAnswer{Answer: api.AnswerNo, Point: api.BandPoint{Demand: i, Wave: point.Wave, Sine: point.Sine}}
		}
		maybe = maybe || e != api.OK || answer == api.AnswerMaybe
	}
	if maybe {
		return api.PlantAnswer{Answer: api.AnswerMaybe}
	}
	return api.PlantAnswer{Answer: api.AnswerYes}
}

// explained returns whether the readings of a batch are explained.
func (b book) explained(x api.PlantBatch) int {
	maybe := len(x.Readings) == 0
	for _, r := range x.Readings {
		l, e := b.boxes(x, just(r.Wave))
		answer := api.AnswerMaybe
		if e == api.OK {
			if told, e := fit.Explains(api.FitTask{Boxes: l, On: b.On, Readings: []api.Reading{r}}); e == api.OK {
				answer = told
			}
		}
		if answer == api.AnswerNo {
			return api.AnswerNo
		}
		maybe = maybe || answer == api.AnswerMaybe
	}
	if maybe {
		return api.AnswerMaybe
	}
	return api.AnswerYes
}

// told returns the answer to a question.
func (b book) told(question string) (string, api.Errno) {
	words := strings.Split(question, " ")
	forms := map[string]int{"recipe": 3, "batch": 2, "part": 2, "devices": 1}
	if forms[words[0]] != len(words) || slices.Contains(words, "") {
		return "", api.ErrSyntax
	}
	switch words[0] {
	case "recipe":
		n, ok := number(words[2])
		if !ok {
			return "", api.ErrSyntax
		}
		r := b.recipe(words[1])
		if n < 1 || n > len(r.Versions) {
			return "", api.ErrMissing
		}
		var l []string
		for _, x := range r.Versions[n-1].Layers {
			l = append(l, x.Name+":"+strconv.Itoa(x.Thick))
		}
		return strings.Join(l, ","), api.OK
	case "batch":
		x := b.batch(words[1])
		if x.Name == "" {
			return "", api.ErrMissing
		}
		state := []string{"open", "done", "aborted"}[x.State]
		answer := []string{"no", "maybe", "yes"}[b.answer(x).Answer]
		return x.Recipe + " " + strconv.Itoa(x.Version) + " " + state + " " + strconv.Itoa(len(x.Stops)) + " " + answer, api.OK
	case "part":
		batch, strips, there := b.part(words[1])
		if !there {
			return "", api.ErrMissing
		}
		if batch == "" {
			batch = "-"
		}
		certified := "-"
		if slices.Contains(b.certified(), words[1]) {
			certified = "certified"
		}
		return batch + " " + strconv.Itoa(strips) + " " + certified, api.OK
	}
	var on []string
	for i, is := range b.devices() {
		if is {
			on = append(on, b.Chamber.Devices[i])
		}
	}
	if on == nil {
		return "-", api.OK
	}
	return strings.Join(on, " "), api.OK
}

// isName says whether a word is a name.
func isName(word string) bool {
	const letters = "ABCDEFGHIJKLMNOPQRSTUVWXYZabcdefghijklmnopqrstuvwxyz"
	return word != "" && len(word) <= 12 && strings.Trim(word, letters+"0123456789-") == "" && strings.Contains(letters, word[:1])
}

// errno returns the error of an entry behind the log.
func (b book) errno(x api.PlantEntry) api.Errno {
	role := 0
	for _, person := range b.People {
		if person.Name == x.By {
			role = person.Role
		}
	}
	words := strings.Split(x.Text, " ")
	least := map[string]int{
		"switch": 1, "batch": 1, "stop": 1, "done": 1, "abort": 1, "measure": 1, "strip": 1, "recipe": 2, "change": 2, "merge": 2, "certify": 3,
	}[words[0]]
	switch {
	case role == 0:
		return api.ErrMissing
	case len(x.Text) > 2200:
		return api.ErrLarge
	case least == 0:
		return api.ErrSyntax
	case role < least:
		return api.ErrAllowed
	case slices.Contains(words, ""):
		return api.ErrSyntax
	}
	switch words[0] {
	case "recipe", "change", "merge":
		return b.recipeErrno(words)
	case "batch", "stop", "done", "abort", "measure":
		return b.batchErrno(words)
	}
	if len(words) != 2 {
		return api.ErrSyntax
	}
	if words[0] == "switch" {
		return b.switchErrno(words[1])
	}
	return b.partErrno(words[0], words[1])
}

func (b book) switchErrno(device string) api.Errno {
	state, i := b.devices(), slices.Index(b.Chamber.Devices, device)
	if i < 0 {
		return api.ErrMissing
	}
	state[i] = !state[i]
	for _, r := range b.Chamber.Rules {
		if state[r.If] == r.IfOn && state[r.Then] != r.ThenOn {
			return api.ErrBreak
		}
	}
	return api.OK
}

func (b book) recipeErrno(words []string) api.Errno {
	if len(words) < 4 {
		return api.ErrSyntax
	}
	if words[0] == "recipe" {
		hasProduct := slices.ContainsFunc(b.Products, func(x api.PlantProduct) bool { return x.Name == words[2] })
		switch {
		case len(b.recipes()) >= 10:
			return api.ErrFull
		case !isName(words[1]):
			return api.ErrName
		case b.recipe(words[1]).Name != "":
			return api.ErrExists
		case !hasProduct:
			return api.ErrMissing
		}
		_, e := b.layersOf(words[3:])
		return e
	}
	from, ok := number(words[2])
	other, ok2 := from, true
	if words[0] == "merge" {
		other, ok2 = number(words[3])
		ok2 = ok2 && len(words) == 4
	}
	l := b.versions(words[1])
	switch {
	case !ok || !ok2:
		return api.ErrSyntax
	case min(from, other) < 1 || max(from, other) > len(l):
		return api.ErrMissing
	case len(l) >= 20:
		return api.ErrFull
	case words[0] == "change":
		_, e := b.layersOf(words[3:])
		return e
	case bookIsAncestor(l, from, other) || bookIsAncestor(l, other, from):
		return api.ErrDouble
	}
	if _, _, ok := bookMerged(l[bookCommon(l, from, other)-1].Layers, l[from-1].Layers, l[other-1].Layers); !ok {
		return api.ErrClash
	}
	return api.OK
}

func (b book) batchErrno(words []string) api.Errno {
	batches := b.batches()
	open, left := api.PlantBatch{}, 0
	for _, x := range batches {
		if x.State == api.BatchOpen {
			open = x
			left = len(b.recipe(x.Recipe).Versions[x.Version-1].Layers) - len(x.Stops)
		}
	}
	switch words[0] {
	case "batch":
		if len(words) < 5 {
			return api.ErrSyntax
		}
		return b.beginErrno(words, open.Name != "")
	case "stop":
		s, e := grow.ParseStop(strings.Join(words[1:], " "))
		switch {
		case e == api.ErrSyntax:
			return e
		case open.Name == "" || left == 0:
			return api.ErrState
		case e != api.OK:
			return e
		case s.Layer != len(open.Stops):
			return api.ErrGap
		case !b.devices()[b.Shutter]:
			return api.ErrBreak
		}
		return api.OK
	case "measure":
		if len(words) < 3 {
			return api.ErrSyntax
		}
		x := b.batch(words[1])
		_, e := meter.ParseReading(strings.Join(words[2:], " "))
		switch {
		case x.Name == "":
			return api.ErrMissing
		case x.State != api.BatchDone:
			return api.ErrState
		case len(x.Readings) >= 20:
			return api.ErrFull
		}
		return e
	}
	switch {
	case len(words) != 1:
		return api.ErrSyntax
	case open.Name == "" || words[0] == "done" && left > 0:
		return api.ErrState
	}
	return api.OK
}

func (b book) beginErrno(words []string, busy bool) api.Errno {
	n, ok := number(words[3])
	switch {
	case !ok:
		return api.ErrSyntax
	case busy:
		return api.ErrBusy
	case len(b.batches()) >= 20:
		return api.ErrFull
	case !isName(words[1]):
		return api.ErrName
	case b.batch(words[1]).Name != "":
		return api.ErrExists
	case n < 1 || n > len(b.versions(words[2])):
		return api.ErrMissing
	}
	events := len(b.events())
	for i, part := range words[4:] {
		batch, _, _ := b.part(part)
		switch {
		case events+i >= 100:
			return api.ErrLarge
		case !isName(part):
			return api.ErrName
		case batch != "" || slices.Contains(words[4:4+i], part):
			return api.ErrState
		}
	}
	return api.OK
}

func (b book) partErrno(kind, part string) api.Errno {
	name, strips, there := b.part(part)
	batch := b.batch(name)
	if !there {
		return api.ErrMissing
	}
	if kind == "strip" {
		switch {
		case name != "" && batch.State == api.BatchOpen:
			return api.ErrBusy
		case len(b.events()) >= 100:
			return api.ErrLarge
		case name == "":
			return api.ErrState
		case strips >= 3:
			return api.ErrFull
		}
		return api.OK
	}
	switch {
	case name == "" || batch.State != api.BatchDone:
		return api.ErrState
	case slices.Contains(b.certified(), part):
		return api.ErrDouble
	case b.answer(batch).Answer != api.AnswerYes || b.explained(batch) == api.AnswerNo:
		return api.ErrProof
	}
	return api.OK
}

// bookSeal returns the seal of a log.
func bookSeal(log []api.PlantEntry) int {
	seal := 1
	for _, x := range log {
		for _, text := range []string{x.By, x.Text} {
			for i := range len(text) {
				seal = (257*seal + int(text[i]) + 1) % 998244353
			}
			seal = (257*seal + 10 + 1) % 998244353
		}
	}
	return seal
}
