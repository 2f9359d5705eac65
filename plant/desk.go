package plant

import (
	"slices"

	"etalon/api"
)

// Desk is a plant at work.
type Desk struct {
	plant *plant
	log   []api.PlantEntry
}

// New returns a desk with no entries.
func New(s api.PlantSetup) (*Desk, api.Errno) {
	if _, e := CheckSetup(s); e != api.OK {
		return nil, e
	}
	return &Desk{plant: started(copied(s))}, api.OK
}

// Enter enters an entry.
func (d *Desk) Enter(x api.PlantEntry) api.Errno {
	if d == nil {
		return api.ErrNil
	}
	log, e := d.plant.accepted(d.log, x)
	if e != api.OK {
		return e
	}
	d.log = log
	return api.OK
}

// Log returns the log.
func (d *Desk) Log() []api.PlantEntry {
	if d == nil {
		return nil
	}
	return slices.Clone(d.log)
}

// Ask returns the answer to a question.
func (d *Desk) Ask(question string) (string, api.Errno) {
	if d == nil {
		return "", api.ErrNil
	}
	return d.plant.told(question)
}
