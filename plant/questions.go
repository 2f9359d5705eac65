package plant

import (
	"slices"
	"strconv"
	"strings"

	"etalon/api"
	"etalon/rack"
	"etalon/stack"
)

// none is the word for what there is none of.
const none = "-"

func stateWords() []string {
	return []string{api.BatchOpen: "open", api.BatchDone: "done", api.BatchAborted: "aborted"}
}

func answerWords() []string {
	return []string{api.AnswerNo: "no", api.AnswerMaybe: "maybe", api.AnswerYes: "yes"}
}

// topic is a kind of questions: its form, and what the words behind the first one are answered.
type topic struct {
	form
	told func(p *plant, words []string) (string, api.Errno)
}

func topics() []topic {
	return []topic{
		{form{"recipe", 2, false}, (*plant).toldRecipe},
		{form{"batch", 1, false}, (*plant).toldBatch},
		{form{"part", 1, false}, (*plant).toldPart},
		{form{"devices", 0, false}, (*plant).toldDevices},
	}
}

// Ask returns the answer to a question.
func Ask(s api.PlantSetup, log []api.PlantEntry, question string) (string, api.Errno) {
	p, _, e := replayed(s, log)
	if e != api.OK {
		return "", e
	}
	return p.told(question)
}

// told returns the answer to a question.
func (p *plant) told(question string) (string, api.Errno) {
	words := strings.Split(question, blank)
	t := named(topics(), words[0], func(t topic) string { return t.first })
	if t == nil || !t.fits(words[1:]) {
		return "", api.ErrSyntax
	}
	return t.told(p, words[1:])
}

// toldRecipe has the words NAME and VERSION.
func (p *plant) toldRecipe(words []string) (string, api.Errno) {
	var version int
	if !numbersOf(words[1:], &version) {
		return "", api.ErrSyntax
	}
	r, e := p.recipeWith(words[0], version)
	if e != api.OK {
		return "", e
	}
	return stack.FormatStack([]api.StackPart{{Layers: r.Versions[version-1].Layers, Times: 1}}), api.OK
}

// toldBatch has the word NAME.
func (p *plant) toldBatch(words []string) (string, api.Errno) {
	b := p.batch(words[0])
	if b == nil {
		return "", api.ErrMissing
	}
	answer := answerWords()[p.coatingOf(b).answer().Answer]
	return sentence(b.Recipe, strconv.Itoa(b.Version), stateWords()[b.State], strconv.Itoa(len(b.Stops)), answer), api.OK
}

// toldPart has the word NAME.
func (p *plant) toldPart(words []string) (string, api.Errno) {
	part := words[0]
	state, e := rack.StateOf(p.Events, part)
	if e != api.OK {
		return "", e
	}
	batch, certified := none, none
	if state.Batch != "" {
		batch = state.Batch
	}
	if slices.Contains(p.Certified, part) {
		certified = "certified"
	}
	return sentence(batch, strconv.Itoa(state.Strips), certified), api.OK
}

func (p *plant) toldDevices([]string) (string, api.Errno) {
	var on []string
	for i, name := range p.Chamber.Devices {
		if p.Devices[i] {
			on = append(on, name)
		}
	}
	if len(on) == 0 {
		return none, api.OK
	}
	return sentence(on...), api.OK
}

// sentence returns words with single blanks between.
func sentence(words ...string) string { return strings.Join(words, blank) }
