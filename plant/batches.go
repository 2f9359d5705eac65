package plant

import (
	"slices"
	"strings"

	"etalon/api"
	"etalon/grow"
	"etalon/meter"
	"etalon/rack"
	"etalon/text"
)

// open returns the open batch, nil if there is none.
func (p *plant) open() *api.PlantBatch {
	for i, b := range p.Batches {
		if b.State == api.BatchOpen {
			return &p.Batches[i]
		}
	}
	return nil
}

// isGrown says whether all layers of a batch are grown.
func (p *plant) isGrown(b *api.PlantBatch) bool {
	return len(b.Stops) == len(p.versionOf(b).Layers)
}

// enterBatch has the words NAME, RECIPE, VERSION, and each PART.
func (p *plant) enterBatch(words []string) api.Errno {
	name, recipe, parts := words[0], words[1], words[3:]
	var version int
	if !numbersOf(words[2:3], &version) {
		return api.ErrSyntax
	}
	switch {
	case p.open() != nil:
		return api.ErrBusy
	case len(p.Batches) == api.MaxPlantBatches:
		return api.ErrFull
	case !text.IsName(name):
		return api.ErrName
	case p.batch(name) != nil:
		return api.ErrExists
	}
	if _, e := p.recipeWith(recipe, version); e != api.OK {
		return e
	}
	events, e := coated(p.Events, name, parts)
	if e != api.OK {
		return e
	}
	p.Events = events
	p.Batches = append(p.Batches, api.PlantBatch{Name: name, Recipe: recipe, Version: version, Parts: parts})
	return api.OK
}

// coated returns a history behind which parts are coated in a batch, the first one as its witness piece.
func coated(h []api.PartEvent, batch string, parts []string) ([]api.PartEvent, api.Errno) {
	kind := api.EventWitness
	for _, part := range parts {
		longer, e := behind(h, api.PartEvent{Kind: kind, Part: part, Batch: batch})
		if e != api.OK {
			return nil, e
		}
		h, kind = longer, api.EventCoat
	}
	return h, api.OK
}

// behind returns a history with one more event.
func behind(h []api.PartEvent, x api.PartEvent) ([]api.PartEvent, api.Errno) {
	h = slices.Concat(h, []api.PartEvent{x})
	if _, e := rack.CheckHistory(h); e != api.OK {
		return nil, e
	}
	return h, api.OK
}

// enterStop has the words LAYER, and both ends of the thickness.
func (p *plant) enterStop(words []string) api.Errno {
	stop, e := grow.ParseStop(strings.Join(words, blank))
	if e == api.ErrSyntax {
		return e
	}
	b := p.open()
	switch {
	case b == nil || p.isGrown(b):
		return api.ErrState
	case e != api.OK:
		return e
	case stop.Layer != len(b.Stops):
		return api.ErrGap
	case !p.Devices[p.Shutter]:
		return api.ErrBreak
	}
	b.Stops = append(b.Stops, stop.Thick)
	return api.OK
}

func (p *plant) enterDone([]string) api.Errno {
	b := p.open()
	if b == nil || !p.isGrown(b) {
		return api.ErrState
	}
	b.State = api.BatchDone
	return api.OK
}

func (p *plant) enterAbort([]string) api.Errno {
	b := p.open()
	if b == nil {
		return api.ErrState
	}
	b.State = api.BatchAborted
	return api.OK
}

// enterMeasure has the words BATCH, and those of the reading.
func (p *plant) enterMeasure(words []string) api.Errno {
	b := p.batch(words[0])
	switch {
	case b == nil:
		return api.ErrMissing
	case b.State != api.BatchDone:
		return api.ErrState
	case len(b.Readings) == api.MaxReadings:
		return api.ErrFull
	}
	r, e := meter.ParseReading(strings.Join(words[1:], blank))
	if e != api.OK {
		return e
	}
	b.Readings = append(b.Readings, r)
	return api.OK
}
