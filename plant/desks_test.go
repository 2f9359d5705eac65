package plant_test

import (
	"slices"
	"strconv"
	"testing"

	"etalon/api"
	"etalon/plant"
)

// P10.8: a desk that is nil.
func TestNilDesk(t *testing.T) {
	var d *plant.Desk
	for _, x := range []api.PlantEntry{{}, entry("ann switch pump")} {
		wantErrno(t, "Enter", d.Enter(x), api.ErrNil)
	}
	for _, question := range []string{"", "devices", "batch b1"} {
		text, e := d.Ask(question)
		wantSame(t, "Ask", text, e, "", api.ErrNil)
	}
	if log := d.Log(); len(log) != 0 {
		t.Errorf("Log: %v", log)
	}
}

// P10.8: a desk that comes from New.
func TestDesk(t *testing.T) {
	d, e := plant.New(plain())
	wantErrno(t, "New", e, api.OK)
	if log := d.Log(); len(log) != 0 {
		t.Errorf("a new desk has %v", log)
	}
	text, e := d.Ask("devices")
	wantSame(t, "a new desk", text, e, "-", api.OK)
	for i, x := range logOf(certified()...) {
		wantErrno(t, x.Text, d.Enter(x), api.OK)
		wantSame(t, "the log", d.Log(), api.OK, logOf(certified()[:i+1]...), api.OK)
	}
	text, e = d.Ask("batch b1")
	wantSame(t, "the batch", text, e, "r 1 done 1 yes", api.OK)
	text, e = d.Ask("batch")
	wantSame(t, "no question", text, e, "", api.ErrSyntax)
	wrong := plain()
	wrong.Shutter = 2
	d, e = plant.New(wrong)
	if d != nil || e != api.ErrMissing {
		t.Errorf("New of a wrong setup: %v, %d", d, e)
	}
}

// P10.8: how many entries a desk takes.
func TestFullDesk(t *testing.T) {
	d := deskWith(t, plain(), slices.Repeat(logOf("ann switch pump"), 60))
	for range 2 {
		wantErrno(t, "one more", d.Enter(entry("ann switch pump")), api.ErrFull)
		wantErrno(t, "a wrong one", d.Enter(entry("eve done")), api.ErrFull)
		wantSeen(t, "entries", len(d.Log()), 60)
	}
	text, e := d.Ask("devices")
	wantSame(t, "devices", text, e, "-", api.OK)
}

// P10.8: two desks of one setup know nothing of each other.
func TestTwoDesks(t *testing.T) {
	s := plain()
	first, _ := plant.New(s)
	second, _ := plant.New(s)
	wantErrno(t, "the first desk", first.Enter(entry("ann switch pump")), api.OK)
	wantErrno(t, "the second desk", second.Enter(entry("ann switch shutter")), api.ErrBreak)
	text, e := second.Ask("devices")
	wantSame(t, "devices", text, e, "-", api.OK)
	wantSame(t, "the log", second.Log(), api.OK, nil, api.OK)
}

// refusedLines are entries that have much to do before they are refused, behind some log.
func refusedLines() []string {
	return []string{
		"ann switch shutter", "ann switch lamp", "bob recipe x ar Z:1", "bob recipe x ar H:1 H", "bob change r 1 Z:1", "bob change r 1 H:1 H", "bob merge r 1 1", "bob merge r 1 2",
		"bob merge r 2 3", "ann batch x r 1 x y 1", "ann batch x r 1 x y x", "ann batch x r 1 x w", "ann batch x r 9 x y", "ann stop 0 2 1", "ann stop 1 1 1", "ann stop 0 1 1 1", "ann done", "ann abort",
		"ann done x", "ann measure b1 z", "ann measure b1 " + readingText + " 0", "ann strip x", "ann strip w", "ann strip p", "cid certify w", "cid certify p", "ann certify p", "eve switch pump", "ann switch",
	}
}

// P10.8: an entry that is refused leaves no trace: a desk at which many are refused answers all like another one.
func TestNoTrace(t *testing.T) {
	seen := map[string]bool{}
	for _, log := range [][]api.PlantEntry{askedLog(), logOf(certified()...), wideLog()} {
		s := banded()
		d, _ := plant.New(s)
		for i, x := range log {
			for _, line := range refusedLines() {
				if (book{s, log[:i]}).errno(entry(line)) == api.OK {
					continue
				}
				seen[line] = true
				if e := d.Enter(entry(line)); e == api.OK {
					t.Fatalf("%s behind %d entries", line, i)
				}
			}
			wantSame(t, "the log", d.Log(), api.OK, log[:i], api.OK)
			wantTold(t, book{s, log[:i]}, d)
			wantErrno(t, x.Text, d.Enter(x), api.OK)
		}
		wantTold(t, book{s, log}, d)
	}
	wantSeen(t, "refused entries", len(seen), len(refusedLines()))
}

// P10.8, R3: a desk does not keep its setup, nor share its log.
func TestDeskAlone(t *testing.T) {
	s := rich()
	d, e := plant.New(s)
	wantErrno(t, "New", e, api.OK)
	spoilSetup(&s)
	wantErrno(t, "the rules stay", d.Enter(entry("ann switch shutter")), api.ErrBreak)
	log := logOf(append(done(), "cid certify p", "ann measure b1 "+readingText, "bob recipe l two M:50000", "ann batch b2 l 1 q")...)
	for _, x := range log {
		wantErrno(t, x.Text, d.Enter(x), api.OK)
	}
	for range 2 {
		got := d.Log()
		wantSame(t, "the log", got, api.OK, log, api.OK)
		spoil(got)
	}
	wantTold(t, book{rich(), log}, d)
	wantErrno(t, "another entry", d.Enter(entry("dan certify w")), api.OK)
	wantSame(t, "the log", d.Log(), api.OK, append(log, entry("dan certify w")), api.OK)
	for i := range 3 {
		wantErrno(t, strconv.Itoa(i), d.Enter(entry("bob recipe q"+strconv.Itoa(i)+" two L:1,M:2")), api.OK)
	}
}
