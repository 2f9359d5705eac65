package glass

import (
	"strings"

	"etalon/api"
	"etalon/text"
)

// Parse returns the catalogue with a text, or the first error and where it is.
func Parse(t string) (l []api.Glass, mark api.TextMark, e api.Errno) {
	if len(t) > api.MaxText {
		return nil, api.TextMark{}, api.ErrLarge
	}
	defer func() {
		if wrong, ok := recover().(mistake); ok {
			l, mark, e = nil, wrong.mark, wrong.errno
		}
	}()
	var r reader
	for i, line := range strings.Split(t, "\n") {
		r.line = lineOf(line, i+1)
		r.read()
	}
	r.complete()
	return r.glasses, api.TextMark{}, api.OK
}

// reader reads a catalogue line by line.
type reader struct {
	line
	glasses []api.Glass
	last    api.TextMark // the first word of the last material
}

// read reads a line.
func (r *reader) read() {
	if r.left() == 0 {
		return
	}
	first := r.next()
	if first == wordNote {
		return
	}
	if first == wordGlass {
		r.complete()
	}
	if e := r.refusal(first); e != api.OK {
		r.stop(e)
	}
	switch first {
	case wordGlass:
		r.readGlass()
	case wordRow:
		r.readRow()
	case wordCauchy:
		r.readCauchy()
	}
	if r.left() > 0 {
		r.next()
		r.stop(api.ErrSyntax)
	}
}

// complete stops if the last material has neither rows nor a formula.
func (r *reader) complete() {
	if len(r.glasses) > 0 && r.glass().Kind == 0 {
		panic(mistake{r.last, api.ErrShape})
	}
}

// refusal returns why a first word may not stand here.
func (r *reader) refusal(first string) api.Errno {
	if first == wordGlass {
		if len(r.glasses) == api.MaxGlasses {
			return api.ErrLarge
		}
		return api.OK
	}
	if first != wordRow && first != wordCauchy || len(r.glasses) == 0 {
		return api.ErrSyntax
	}
	g := r.glass()
	if first == wordRow && len(g.Waves) == api.MaxGlassRows {
		return api.ErrLarge
	}
	if g.Kind == api.GlassCauchy || first == wordCauchy && g.Kind == api.GlassTable {
		return api.ErrClash
	}
	return api.OK
}

// glass returns the last material.
func (r *reader) glass() *api.Glass { return &r.glasses[len(r.glasses)-1] }

func (r *reader) readGlass() {
	r.last = r.mark()
	name := r.next()
	if !text.IsName(name) {
		r.stop(api.ErrName)
	}
	if _, there := named(r.glasses, name); there {
		r.stop(api.ErrExists)
	}
	// A part of the text would be memory of the argument.
	r.glasses = append(r.glasses, api.Glass{Name: strings.Clone(name)})
}

func (r *reader) readRow() {
	g := r.glass()
	wave := r.number(api.LeastWave, api.MaxWave)
	if rows := len(g.Waves); rows > 0 && wave <= g.Waves[rows-1] {
		r.stop(api.ErrOrder)
	}
	index := r.number(api.LeastIndex, api.MaxIndex)
	loss := r.number(0, api.MaxIndex)
	g.Kind = api.GlassTable
	g.Waves = append(g.Waves, wave)
	g.Index = append(g.Index, float32(index))
	g.Loss = append(g.Loss, float32(loss))
}

func (r *reader) readCauchy() {
	g := r.glass()
	g.Kind = api.GlassCauchy
	g.Cauchy = [2]int{r.number(api.LeastIndex, mostFirst), r.number(0, api.MaxCauchy)}
}
