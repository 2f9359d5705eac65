package plant_test

import (
	"slices"
	"strconv"
	"strings"
	"testing"

	"etalon/api"
	"etalon/plant"
)

// askedLog is a log in the rich setup behind which there is something of everything: b1 is done, b2 aborted, b3 open.
func askedLog() []api.PlantEntry {
	return logOf(joined(
		coatedWith("two", "H:250*2", "250 250", "249 251"),
		[]string{"cid certify p", "bob change r 1 L:1,H:0~ K:2*3", "bob recipe Q-1 any N:1", "ann batch b2 r 2 a b", "ann stop 0 0 0", "ann abort"},
		[]string{"ann strip a", "ann batch b3 Q-1 1 a c", "ann strip w"},
	)...)
}

// P10.6: the answers to right questions, those of the chapter's fifth example among them.
func TestAsk(t *testing.T) {
	for _, x := range []struct {
		name     string
		setup    api.PlantSetup
		log      []api.PlantEntry
		question string
		want     string
	}{
		{"example", plain(), logOf(certified()...), "batch b1", "r 1 done 1 yes"},
		{"example", plain(), logOf(certified()...), "part p", "b1 0 certified"},
		{"example", plain(), logOf(certified()...), "devices", "pump shutter"},
		{"example", plain(), logOf(certified()...), "recipe r 1", "H:500"},
		{"not certified", plain(), logOf(certified()...), "part w", "b1 0 -"},
		{"the second example", plain(), logOf(coatedWith("ar", "H:500", "0 0")...), "batch b1", "r 1 done 1 no"},
		{"no device is on", plain(), nil, "devices", "-"},
		{"one device", plain(), logOf("ann switch pump"), "devices", "pump"},
		{"at the start", rich(), nil, "devices", "lamp"},
		{"all devices, in their order", rich(), askedLog(), "devices", "pump shutter lamp"},
		{"repeated layers", rich(), askedLog(), "recipe r 1", "H:250,H:250"},
		{"layers that stand backwards", rich(), askedLog(), "recipe r 2", "H:0,L:1,K:2,K:2,K:2"},
		{"another recipe", rich(), askedLog(), "recipe Q-1 1", "N:1"},
		{"done", rich(), askedLog(), "batch b1", "r 1 done 2 yes"},
		{"aborted", rich(), askedLog(), "batch b2", "r 2 aborted 1 no"},
		{"open", rich(), askedLog(), "batch b3", "Q-1 1 open 0 maybe"},
		{"certified", rich(), askedLog(), "part p", "b1 0 certified"},
		{"stripped", rich(), askedLog(), "part w", "- 1 -"},
		{"stripped and coated again", rich(), askedLog(), "part a", "b3 1 -"},
		{"in an aborted batch", rich(), askedLog(), "part b", "b2 0 -"},
		{"certified, then stripped", plain(), logOf(append(certified(), "ann strip p")...), "part p", "- 1 -"},
		{"and coated again", plain(), logOf(append(certified(), "ann strip p", "ann batch b2 r 1 p")...), "part p", "b2 1 -"},
	} {
		text, e := plant.Ask(x.setup, x.log, x.question)
		wantSame(t, x.name+", "+x.question, text, e, x.want, api.OK)
		text, e = deskWith(t, x.setup, x.log).Ask(x.question)
		wantSame(t, x.name+", "+x.question+" of a desk", text, e, x.want, api.OK)
	}
}

// P10.6: questions that have not their form, or that ask for what is not there.
func TestAskErrors(t *testing.T) {
	wrong := []string{
		"", " ", "devices ", " devices", "devices x", "Devices", "device", "devices\n", "recipe", "recipe r", "recipe r 1 1", "recipe r ", "recipe  1", "recipe r 1 ", "recipe  r 1",
		"batch", "batch ", "batch b1 ", "batch  b1", "batch b1 b2", "part", "part ", "part p p", "part p ", " part p", "certify p", "switch pump", "r 1", "part\tp", "-",
	}
	for _, number := range []string{"x", "01", "+1", "-0", "1.0", "-", "1\n", "1234567890", "-1234567890", "0000000001", "99999999999999999999", strings.Repeat("1", 10000)} {
		wrong = append(wrong, "recipe r "+number, "recipe none "+number)
	}
	missing := []string{
		"recipe R 1", "recipe r 0", "recipe r -1", "recipe r 3", "recipe r 123456789", "recipe r -999999999", "recipe Q-1 2", "recipe b1 1", "recipe 1 1", "recipe two 1",
		"batch B1", "batch r", "batch p", "batch b4", "batch -", "batch b1\n", "part P", "part b1", "part r", "part q", "part -", "part " + longName,
	}
	d := deskWith(t, rich(), askedLog())
	for errno, questions := range map[api.Errno][]string{api.ErrSyntax: wrong, api.ErrMissing: missing} {
		for _, question := range questions {
			text, e := plant.Ask(rich(), askedLog(), question)
			wantSame(t, strconv.Quote(question), text, e, "", errno)
			text, e = d.Ask(question)
			wantSame(t, strconv.Quote(question)+" of a desk", text, e, "", errno)
		}
	}
	for question, errno := range map[string]api.Errno{"batch b1": api.ErrMissing, "part p": api.ErrMissing, "recipe r 1": api.ErrMissing, "": api.ErrSyntax} {
		text, e := plant.Ask(plain(), nil, question)
		wantSame(t, question+" of no entries", text, e, "", errno)
	}
	for _, question := range []string{"devices", "", "part q"} {
		text, e := plant.Ask(plain(), logOf("ann switch shutter"), question)
		wantSame(t, question+" of a wrong log", text, e, "", api.ErrBreak)
		text, e = plant.Ask(plain(), slices.Repeat(logOf("ann switch pump"), 61), question)
		wantSame(t, question+" of a long log", text, e, "", api.ErrLarge)
	}
}

// P10.6: a recipe is told as one part, which is read again.
func TestAskRecipe(t *testing.T) {
	for _, text := range []string{"H:0", "L:1000000", "H:1,L:2,M:3,K:4,N:5", "H:1*40", "H:1,L:2~", "H:1,L:2*3~ M:7*2", "H:1 H:1"} {
		log := logOf("bob recipe r any " + text)
		told := must[string](t)(plant.Ask(rich(), log, "recipe r 1"))
		s := must[api.PlantState](t)(plant.StateOf(rich(), log))
		again := must[api.PlantState](t)(plant.StateOf(rich(), logOf("bob recipe r any "+told)))
		wantSame(t, text, again.Recipes, api.OK, s.Recipes, api.OK)
		if strings.ContainsAny(told, " *~") {
			t.Errorf("%s: %s is more than one part", text, told)
		}
	}
}
