package rack_test

import (
	"math"
	"math/rand/v2"
	"slices"
	"strconv"
	"strings"
	"testing"

	"etalon/api"
	"etalon/rack"
)

// coat, witness and strip return events.
func coat(part, batch string) api.PartEvent {
	return api.PartEvent{Kind: api.EventCoat, Part: part, Batch: batch}
}

func witness(part, batch string) api.PartEvent {
	return api.PartEvent{Kind: api.EventWitness, Part: part, Batch: batch}
}

func strip(part string) api.PartEvent { return api.PartEvent{Kind: api.EventStrip, Part: part} }

// history returns a history.
func history(l ...api.PartEvent) []api.PartEvent { return l }

// plainHistory is the history of the chapter's example.
func plainHistory() []api.PartEvent {
	return history(coat("p", "b1"), witness("w", "b1"), strip("p"), coat("p", "b2"))
}

// stripped returns the history of a part that is coated and stripped so many times.
func stripped(part string, times int) []api.PartEvent {
	var h []api.PartEvent
	for i := range times {
		h = append(h, coat(part, "b"+strconv.Itoa(i)), strip(part))
	}
	return h
}

// busy is a history in which much happens: b1 has b, a (again) and c, of which b and c are witness pieces; b2 is empty
// again, b3 has the witness piece d.
func busy() []api.PartEvent {
	return history(
		coat("a", "b1"), witness("b", "b1"), coat("c", "b2"), coat("d", "b2"), strip("a"), strip("c"), strip("d"),
		coat("a", "b1"), witness("c", "b1"), witness("d", "b3"),
	)
}

// allEvents are the events of two parts and two batches.
func allEvents() []api.PartEvent {
	var l []api.PartEvent
	for _, part := range []string{"p", "q"} {
		l = append(l, coat(part, "b"), coat(part, "c"), witness(part, "b"), strip(part))
	}
	return append(l, witness("q", "c"))
}

// drawnHistory returns a right history of some parts and batches.
func drawnHistory(r *rand.Rand) []api.PartEvent {
	var h []api.PartEvent
	for range r.IntN(60) {
		x := api.PartEvent{Kind: r.IntN(3), Part: "p" + strconv.Itoa(r.IntN(8))}
		if x.Kind != api.EventStrip {
			x.Batch = "b" + strconv.Itoa(r.IntN(4))
		}
		if bookErrno(h, x) == api.OK {
			h = append(h, x)
		}
	}
	return h
}

// P9.5: StateOf.
func TestStateOf(t *testing.T) {
	for _, x := range []struct {
		name    string
		history []api.PartEvent
		part    string
		want    api.PartState
		errno   api.Errno
	}{
		{"the chapter's example", plainHistory(), "p", api.PartState{Batch: "b2", Strips: 1}, api.OK},
		{"its witness piece", plainHistory(), "w", api.PartState{Batch: "b1", Witness: true}, api.OK},
		{"no event", plainHistory(), "q", api.PartState{}, api.ErrMissing},
		{"a batch is no part", plainHistory(), "b1", api.PartState{}, api.ErrMissing},
		{"no name", plainHistory(), "", api.PartState{}, api.ErrMissing},
		{"another size", plainHistory(), "P", api.PartState{}, api.ErrMissing},
		{"no history", nil, "p", api.PartState{}, api.ErrMissing},
		{"coated", plainHistory()[:1], "p", api.PartState{Batch: "b1"}, api.OK},
		{"stripped", plainHistory()[:3], "p", api.PartState{Strips: 1}, api.OK},
		{"a stripped witness piece", history(witness("w", "b"), strip("w")), "w", api.PartState{Strips: 1}, api.OK},
		{"a witness piece that is coated again", history(witness("w", "b"), strip("w"), coat("w", "b")), "w", api.PartState{Batch: "b", Strips: 1}, api.OK},
		{"a part that is a witness piece then", history(coat("w", "b"), strip("w"), witness("w", "b")), "w", api.PartState{Batch: "b", Witness: true, Strips: 1}, api.OK},
		{"stripped three times", stripped("p", 3), "p", api.PartState{Strips: 3}, api.OK},
		{"and coated again", append(stripped("p", 3), coat("p", "b9")), "p", api.PartState{Batch: "b9", Strips: 3}, api.OK},
		{"among others", busy(), "a", api.PartState{Batch: "b1", Strips: 1}, api.OK},
		{"others", busy(), "b", api.PartState{Batch: "b1", Witness: true}, api.OK},
	} {
		got, e := rack.StateOf(x.history, x.part)
		wantSame(t, x.name, got, e, x.want, x.errno)
	}
}

// P9.5: BatchOf.
func TestBatchOf(t *testing.T) {
	for _, x := range []struct {
		name    string
		history []api.PartEvent
		batch   string
		want    []string
		errno   api.Errno
	}{
		{"the chapter's example", plainHistory(), "b1", []string{"w"}, api.OK},
		{"the other batch", plainHistory(), "b2", []string{"p"}, api.OK},
		{"ahead of the stripping", plainHistory()[:2], "b1", []string{"p", "w"}, api.OK},
		{"no such batch", plainHistory(), "b3", nil, api.ErrMissing},
		{"a part is no batch", plainHistory(), "p", nil, api.ErrMissing},
		{"no name, although events have none", plainHistory(), "", nil, api.ErrMissing},
		{"no history", nil, "b1", nil, api.ErrMissing},
		{"empty again", history(coat("p", "b"), strip("p")), "b", nil, api.OK},
		{"empty again, by another batch", history(coat("p", "b"), strip("p"), coat("p", "c")), "b", nil, api.OK},
		{"the same batch again", history(coat("p", "b"), strip("p"), coat("p", "b")), "b", []string{"p"}, api.OK},
		{"the same batch again, behind another part", history(coat("p", "b"), coat("q", "b"), strip("p"), coat("p", "b")), "b", []string{"q", "p"}, api.OK},
		{"not by names", history(coat("z", "b"), witness("a", "b"), coat("m", "b")), "b", []string{"z", "a", "m"}, api.OK},
		{"a batch with a stripped witness piece", history(witness("w", "b"), coat("p", "b"), strip("w")), "b", []string{"p"}, api.OK},
		{"among others", busy(), "b1", []string{"b", "a", "c"}, api.OK},
		{"among others, empty again", busy(), "b2", nil, api.OK},
		{"among others, the last one", busy(), "b3", []string{"d"}, api.OK},
	} {
		got, e := rack.BatchOf(x.history, x.batch)
		wantSame(t, x.name, got, e, x.want, x.errno)
	}
}

// P9.5: WitnessesOf.
func TestWitnessesOf(t *testing.T) {
	for _, x := range []struct {
		name    string
		history []api.PartEvent
		part    string
		want    []string
		errno   api.Errno
	}{
		{"the chapter's example", plainHistory(), "p", nil, api.OK},
		{"its witness piece", plainHistory(), "w", nil, api.OK},
		{"ahead of the stripping", plainHistory()[:2], "p", []string{"w"}, api.OK},
		{"of the witness piece itself, then", plainHistory()[:2], "w", nil, api.OK},
		{"stripped", plainHistory()[:3], "p", nil, api.ErrState},
		{"no event", plainHistory(), "q", nil, api.ErrMissing},
		{"no name", plainHistory(), "", nil, api.ErrMissing},
		{"no history", nil, "p", nil, api.ErrMissing},
		{"a witness piece that was stripped", history(witness("w", "b"), coat("p", "b"), strip("w")), "p", nil, api.OK},
		{"of that one", history(witness("w", "b"), coat("p", "b"), strip("w")), "w", nil, api.ErrState},
		{"one that is in another batch now", history(witness("w", "b"), coat("p", "b"), strip("w"), witness("w", "c")), "p", nil, api.OK},
		{"one that is a part of it now", history(witness("w", "b"), coat("p", "b"), strip("w"), coat("w", "b")), "p", nil, api.OK},
		{"of that part", history(witness("w", "b"), coat("p", "b"), strip("w"), coat("w", "b")), "w", nil, api.OK},
		{"one that is one again", history(witness("w", "b"), witness("v", "b"), coat("p", "b"), strip("w"), witness("w", "b")), "p", []string{"v", "w"}, api.OK},
		{"of one of both", history(witness("w", "b"), witness("v", "b"), coat("p", "b")), "w", []string{"v"}, api.OK},
		{"not by names", history(witness("z", "b"), coat("p", "b"), witness("a", "b")), "p", []string{"z", "a"}, api.OK},
		{"among others", busy(), "a", []string{"b", "c"}, api.OK},
		{"among others, of a witness piece", busy(), "b", []string{"c"}, api.OK},
		{"among others, alone", busy(), "d", nil, api.OK},
	} {
		got, e := rack.WitnessesOf(x.history, x.part)
		wantSame(t, x.name, got, e, x.want, x.errno)
	}
}

// wantHistory asks for the errors, and for all that is told of a history, by the definition.
func wantHistory(t *testing.T, h []api.PartEvent) {
	t.Helper()
	number, errno := bookHistory(h)
	n, e := rack.CheckHistory(h)
	wantSame(t, "CheckHistory", n, e, number, errno)
	for _, name := range []string{"p", "q", "p0", "p7", "b", "c", "b0", "b3", ""} {
		state, e := rack.StateOf(h, name)
		batch, e1 := rack.BatchOf(h, name)
		witnesses, e2 := rack.WitnessesOf(h, name)
		if errno != api.OK {
			wantSame(t, "StateOf", state, e, api.PartState{}, errno)
			wantSame(t, "BatchOf", batch, e1, nil, errno)
			wantSame(t, "WitnessesOf", witnesses, e2, nil, errno)
			continue
		}
		if want := bookState(h, name); len(bookEvents(h, name)) == 0 {
			wantSame(t, "StateOf", state, e, api.PartState{}, api.ErrMissing)
			wantSame(t, "WitnessesOf", witnesses, e2, nil, api.ErrMissing)
		} else if wantSame(t, "StateOf", state, e, want, api.OK); want.Batch == "" {
			wantSame(t, "WitnessesOf", witnesses, e2, nil, api.ErrState)
		} else {
			others := slices.DeleteFunc(bookCoated(h, want.Batch, true), func(other string) bool { return other == name })
			wantSame(t, "WitnessesOf", witnesses, e2, others, api.OK)
		}
		if slices.ContainsFunc(h, func(x api.PartEvent) bool { return name != "" && x.Batch == name }) {
			wantSame(t, "BatchOf", batch, e1, bookCoated(h, name, false), api.OK)
		} else {
			wantSame(t, "BatchOf", batch, e1, nil, api.ErrMissing)
		}
	}
}

// P9.5: all histories of few events, right and wrong ones, and drawn ones, are those of the definition.
func TestHistoriesAgain(t *testing.T) {
	l := allEvents()
	for length := range 5 {
		numbers := make([]int, length)
		for last := 0; last >= 0; {
			var h []api.PartEvent
			for _, n := range numbers {
				h = append(h, l[n])
			}
			wantHistory(t, h)
			for last = length - 1; last >= 0; last-- {
				if numbers[last]++; numbers[last] < len(l) {
					break
				}
				numbers[last] = 0
			}
		}
	}
	r := draws(60)
	for range 3000 {
		h := drawnHistory(r)
		wantHistory(t, h)
		// Most are wrong with one event more.
		wantHistory(t, slices.Insert(h, r.IntN(len(h)+1), l[r.IntN(len(l))], coat("p"+strconv.Itoa(r.IntN(8)), "b0")))
	}
}

// P9.10: each beginning of a right history is right; a part that was stripped and coated again has the new batch alone.
func TestBeginnings(t *testing.T) {
	r := draws(61)
	again := 0
	for range 1000 {
		h := drawnHistory(r)
		for i := range h {
			if n, e := rack.CheckHistory(h[:i]); n != 0 || e != api.OK {
				t.Fatalf("the first %d of %v: %d, %d", i, h, n, e)
			}
		}
		for part := range 8 {
			name := "p" + strconv.Itoa(part)
			state, e := rack.StateOf(h, name)
			if e != api.OK || state.Batch == "" {
				continue
			}
			if state.Strips > 0 {
				again++
			}
			for _, batch := range []string{"b0", "b1", "b2", "b3"} {
				l, _ := rack.BatchOf(h, batch)
				if slices.Contains(l, name) != (batch == state.Batch) {
					t.Errorf("%v: %s in %s: %v, of the state %v", h, name, batch, l, state)
				}
			}
		}
	}
	wantSeen(t, "parts that were coated again", again, 500)
}

// rightHistory is a history at the ends of what is right: a part that was stripped three times, and 100 events.
func rightHistory() []api.PartEvent {
	h := history(coat("A", longName), witness(longName, "z9"), strip("A"), coat("A", "A"), strip("A"), witness("A", "b"), strip("A"), coat("A", "c-"))
	for len(h) < 100 {
		h = append(h, coat("x"+strconv.Itoa(len(h)), "b"))
	}
	return h
}

// historyDefects returns the defects of that history.
func historyDefects() []defect[[]api.PartEvent] {
	l := []defect[[]api.PartEvent]{
		{"101 events", func(h *[]api.PartEvent) { *h = append(*h, coat("y", "b")) }, api.ErrLarge, 0},
		{"101 wrong events", func(h *[]api.PartEvent) { *h = slices.Repeat(history(strip("")), 101) }, api.ErrLarge, 0},
		{"many wrong events", func(h *[]api.PartEvent) { *h = make([]api.PartEvent, 5000) }, api.ErrLarge, 0},
	}
	for _, i := range []int{0, 1, 2, 5, 7, 50, 99} {
		at := func(name string, e api.Errno, do func(x *api.PartEvent)) {
			l = append(l, defect[[]api.PartEvent]{name, func(h *[]api.PartEvent) { do(&(*h)[i]) }, e, i})
		}
		for _, kind := range []int{-1, 3, math.MinInt, math.MaxInt} {
			at("a kind", api.ErrKind, func(x *api.PartEvent) { x.Kind = kind })
		}
		for _, name := range wrongNames() {
			at("a part", api.ErrName, func(x *api.PartEvent) { x.Part = name })
		}
		if i == 2 {
			at("a batch of what strips", api.ErrForm, func(x *api.PartEvent) { x.Batch = "b" })
			at("no batch of what strips", api.ErrForm, func(x *api.PartEvent) { x.Batch = " " })
			at("what strips a part that is not coated", api.ErrState, func(x *api.PartEvent) { *x = strip("x") })
			continue
		}
		for _, name := range wrongNames() {
			at("a batch", api.ErrName, func(x *api.PartEvent) { x.Batch = name })
		}
	}
	return l
}

// P9.5: the errors of histories, with their numbers.
func TestHistoryDefects(t *testing.T) {
	wantDefects(t, "CheckHistory", rightHistory, historyDefects(), rack.CheckHistory)
	for _, x := range []struct {
		name    string
		history []api.PartEvent
		number  int
		errno   api.Errno
	}{
		{"nothing", nil, 0, api.OK},
		{"an empty list", history(), 0, api.OK},
		{"the chapter's example", plainHistory(), 0, api.OK},
		{"coated twice", history(coat("p", "b"), coat("p", "c")), 1, api.ErrState},
		{"coated twice in one batch", history(coat("p", "b"), coat("p", "b")), 1, api.ErrState},
		{"coated, then a witness piece", history(coat("p", "b"), coat("q", "b"), witness("p", "b")), 2, api.ErrState},
		{"a witness piece that is coated", history(witness("p", "b"), coat("p", "b")), 1, api.ErrState},
		{"stripped at first", history(strip("p")), 0, api.ErrState},
		{"stripped twice", history(coat("p", "b"), strip("p"), strip("p")), 2, api.ErrState},
		{"another part is stripped", history(coat("p", "b"), strip("q")), 1, api.ErrState},
		{"stripped three times", stripped("p", 3), 0, api.OK},
		{"coated a fourth time", append(stripped("p", 3), witness("p", "b")), 0, api.OK},
		{"stripped four times", stripped("p", 4), 7, api.ErrFull},
		{"stripped four times, another part in between", append(append(stripped("p", 3), stripped("q", 3)...), stripped("p", 1)...), 13, api.ErrFull},
		{"three times, but not coated", append(stripped("p", 3), strip("p")), 6, api.ErrState},
		{"each part is stripped three times", append(stripped("p", 3), stripped("q", 3)...), 0, api.OK},
		{"a batch ahead of too often", append(stripped("p", 3), coat("p", "b"), api.PartEvent{Kind: api.EventStrip, Part: "p", Batch: "b"}), 7, api.ErrForm},
		{"a batch ahead of not coated", history(api.PartEvent{Kind: api.EventStrip, Part: "p", Batch: "b"}), 0, api.ErrForm},
		{"no name of a part ahead of a batch", history(api.PartEvent{Kind: api.EventStrip, Part: "1", Batch: "b"}), 0, api.ErrName},
		{"no kind ahead of no name", history(api.PartEvent{Kind: 3, Part: "1"}), 0, api.ErrKind},
		{"no name of a batch ahead of coated", history(coat("p", "b"), coat("p", "")), 1, api.ErrName},
		{"event by event", history(coat("p", "b"), coat("p", "b"), coat("", "b")), 1, api.ErrState},
		{"event by event, a name first", history(coat("p", "b"), coat("", "b"), coat("p", "b")), 1, api.ErrName},
		{"names that differ in their size", history(coat("p", "b"), coat("P", "b")), 0, api.OK},
		{"a part with the name of a batch", history(coat("b", "b"), coat("c", "b")), 0, api.OK},
	} {
		n, e := rack.CheckHistory(x.history)
		wantSame(t, x.name, n, e, x.number, x.errno)
	}
	wantDefects(t, "StateOf", rightHistory, historyDefects(), errorOf(t, func(h []api.PartEvent) (api.PartState, api.Errno) { return rack.StateOf(h, "A") }))
	wantDefects(t, "BatchOf", rightHistory, historyDefects(), errorOf(t, func(h []api.PartEvent) ([]string, api.Errno) { return rack.BatchOf(h, "b") }))
	wantDefects(t, "WitnessesOf", rightHistory, historyDefects(), errorOf(t, func(h []api.PartEvent) ([]string, api.Errno) { return rack.WitnessesOf(h, "A") }))
	for _, name := range []string{"none", "", strings.Repeat("x", 60000)} {
		h := append(plainHistory(), coat("w", "b1"))
		state, e := rack.StateOf(h, name)
		wantSame(t, "the history ahead of the part", state, e, api.PartState{}, api.ErrState)
		l, e := rack.BatchOf(h, name)
		wantSame(t, "the history ahead of the batch", l, e, nil, api.ErrState)
		l, e = rack.WitnessesOf(h, name)
		wantSame(t, "the history ahead of the part", l, e, nil, api.ErrState)
	}
}
