package rack

import (
	"slices"

	"etalon/api"
	"etalon/text"
	"etalon/whole"
)

// life is the state of a part, which is coated if it has a batch, and then the number of the event that coated it.
type life struct {
	api.PartState
	event int
}

// livesOf returns what became of all parts of a history, by their names, or the number of the first wrong event, and its
// error.
func livesOf(h []api.PartEvent) (map[string]life, int, api.Errno) {
	if len(h) > api.MaxHistory {
		return nil, 0, api.ErrLarge
	}
	lives := map[string]life{}
	for i, x := range h {
		if e := lives[x.Part].check(x); e != api.OK {
			return nil, i, e
		}
		lives[x.Part] = lives[x.Part].behind(x, i)
	}
	return lives, 0, api.OK
}

// check checks an event of a part with this life so far.
func (l life) check(x api.PartEvent) api.Errno {
	switch {
	case !isKind(x.Kind):
		return api.ErrKind
	case !text.IsName(x.Part):
		return api.ErrName
	case x.Kind == api.EventStrip:
		return l.checkStrip(x)
	case !text.IsName(x.Batch):
		return api.ErrName
	case l.isCoated():
		return api.ErrState
	}
	return api.OK
}

// isKind says whether a number is a kind of events.
func isKind(kind int) bool { return whole.Within(kind, api.EventCoat, api.EventStrip) }

// checkStrip checks what strips a part with this life so far.
func (l life) checkStrip(x api.PartEvent) api.Errno {
	switch {
	case x.Batch != "":
		return api.ErrForm
	case !l.isCoated():
		return api.ErrState
	case l.Strips == api.MaxStrips:
		return api.ErrFull
	}
	return api.OK
}

func (l life) isCoated() bool { return l.Batch != "" }

// behind returns the life behind a right event with a number.
func (l life) behind(x api.PartEvent, number int) life {
	if x.Kind == api.EventStrip {
		return life{PartState: api.PartState{Strips: l.Strips + 1}}
	}
	return life{api.PartState{Batch: x.Batch, Witness: x.Kind == api.EventWitness, Strips: l.Strips}, number}
}

// CheckHistory returns the first error of a history, with the number of the event.
func CheckHistory(h []api.PartEvent) (int, api.Errno) {
	_, i, e := livesOf(h)
	return i, e
}

// StateOf returns the state of a part.
func StateOf(h []api.PartEvent, part string) (api.PartState, api.Errno) {
	lives, _, e := livesOf(h)
	if e != api.OK {
		return api.PartState{}, e
	}
	l, there := lives[part]
	if !there {
		return api.PartState{}, api.ErrMissing
	}
	return l.PartState, api.OK
}

// BatchOf returns the parts that are coated in a batch now, in the order of the events that coated them.
func BatchOf(h []api.PartEvent, batch string) ([]string, api.Errno) {
	lives, _, e := livesOf(h)
	if e != api.OK {
		return nil, e
	}
	// What strips a part names no batch.
	names := func(x api.PartEvent) bool { return x.Kind != api.EventStrip && x.Batch == batch }
	if !slices.ContainsFunc(h, names) {
		return nil, api.ErrMissing
	}
	return coatedIn(h, lives, batch), api.OK
}

// coatedIn returns the parts of a right history that are coated in a batch now, in the order of the events that coated
// them.
func coatedIn(h []api.PartEvent, lives map[string]life, batch string) []string {
	var parts []string
	for i, x := range h {
		if l := lives[x.Part]; l.Batch == batch && l.event == i {
			parts = append(parts, x.Part)
		}
	}
	return parts
}

// WitnessesOf returns the witness pieces, other than a part, that are coated now in the batch that the part is coated in.
func WitnessesOf(h []api.PartEvent, part string) ([]string, api.Errno) {
	lives, _, e := livesOf(h)
	if e != api.OK {
		return nil, e
	}
	l, there := lives[part]
	if !there {
		return nil, api.ErrMissing
	}
	if !l.isCoated() {
		return nil, api.ErrState
	}
	others := func(other string) bool { return other == part || !lives[other].Witness }
	return slices.DeleteFunc(coatedIn(h, lives, l.Batch), others), api.OK
}
