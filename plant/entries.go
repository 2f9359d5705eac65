package plant

import (
	"slices"
	"strings"

	"etalon/api"
	"etalon/grow"
	"etalon/text"
)

const (
	blank      = " "
	lineFeed   = "\n"
	mostDigits = 9 // digits of the numbers of entries and questions
)

// form is how the text of an entry, or of a question, is written: its first word, how many words are behind it, and
// whether there may be more.
type form struct {
	first string
	words int
	more  bool
}

// fits says whether the words behind the first one are as many as they are to be, and none is empty.
func (f form) fits(words []string) bool {
	if len(words) < f.words || len(words) > f.words && !f.more {
		return false
	}
	return !slices.Contains(words, "")
}

// numbersOf reads words as numbers; it says whether all are ones.
func numbersOf(words []string, numbers ...*int) bool {
	return text.Numbers(words, mostDigits, numbers...)
}

// kind is a kind of entries: its form, the first role to which it is allowed, and what the words behind the first one do.
// An entry that is refused has done nothing.
type kind struct {
	form
	role int
	do   func(p *plant, words []string) api.Errno
}

func kinds() []kind {
	return []kind{
		{form{"switch", 1, false}, api.RoleOperator, (*plant).enterSwitch},
		{form{"recipe", 3, true}, api.RoleEngineer, (*plant).enterRecipe},
		{form{"change", 3, true}, api.RoleEngineer, (*plant).enterChange},
		{form{"merge", 3, false}, api.RoleEngineer, (*plant).enterMerge},
		{form{"batch", 4, true}, api.RoleOperator, (*plant).enterBatch},
		{form{"stop", 3, false}, api.RoleOperator, (*plant).enterStop},
		{form{"done", 0, false}, api.RoleOperator, (*plant).enterDone},
		{form{"abort", 0, false}, api.RoleOperator, (*plant).enterAbort},
		{form{"measure", 2, true}, api.RoleOperator, (*plant).enterMeasure},
		{form{"strip", 1, false}, api.RoleOperator, (*plant).enterStrip},
		{form{"certify", 1, false}, api.RoleChief, (*plant).enterCertify},
	}
}

// enter enters an entry, or returns its error.
func (p *plant) enter(x api.PlantEntry) api.Errno {
	person := personOf(p.People, x.By)
	if person == nil {
		return api.ErrMissing
	}
	if len(x.Text) > api.MaxPlantEntry {
		return api.ErrLarge
	}
	// Names that are kept would be memory of the argument otherwise.
	words := strings.Split(strings.Clone(x.Text), blank)
	k := named(kinds(), words[0], func(k kind) string { return k.first })
	switch {
	case k == nil:
		return api.ErrSyntax
	case person.Role < k.role:
		return api.ErrAllowed
	case !k.fits(words[1:]):
		return api.ErrSyntax
	}
	return k.do(p, words[1:])
}

// enterSwitch has the word DEVICE.
func (p *plant) enterSwitch(words []string) api.Errno {
	devices, _, e := grow.Switched(p.Chamber, p.Devices, slices.Index(p.Chamber.Devices, words[0]))
	if e != api.OK {
		return e
	}
	p.Devices = devices
	return api.OK
}
