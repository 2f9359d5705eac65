package plant

import (
	"slices"

	"etalon/api"
	"etalon/rack"
)

// enterStrip has the word PART.
func (p *plant) enterStrip(words []string) api.Errno {
	part := words[0]
	// The events are right, so that a part without one is the only error.
	state, e := rack.StateOf(p.Events, part)
	if e != api.OK {
		return e
	}
	if b := p.open(); b != nil && b.Name == state.Batch {
		return api.ErrBusy
	}
	events, e := behind(p.Events, api.PartEvent{Kind: api.EventStrip, Part: part})
	if e != api.OK {
		return e
	}
	p.Events = events
	p.Certified = slices.DeleteFunc(p.Certified, func(other string) bool { return other == part })
	return api.OK
}

// enterCertify has the word PART.
func (p *plant) enterCertify(words []string) api.Errno {
	part := words[0]
	state, e := rack.StateOf(p.Events, part)
	if e != api.OK {
		return e
	}
	// A part that is not coated has no name of a batch.
	b := p.batch(state.Batch)
	switch {
	case b == nil || b.State != api.BatchDone:
		return api.ErrState
	case slices.Contains(p.Certified, part):
		return api.ErrDouble
	}
	c := p.coatingOf(b)
	if c.answer().Answer != api.AnswerYes || c.explained(b.Readings) == api.AnswerNo {
		return api.ErrProof
	}
	p.Certified = append(p.Certified, part)
	return api.OK
}
