package plant_test

import (
	"slices"
	"strconv"
	"strings"
	"testing"

	"etalon/api"
	"etalon/plant"
)

// P10.7: seals, those of the chapter's sixth example among them.
func TestSeal(t *testing.T) {
	for _, x := range []struct {
		name string
		log  []api.PlantEntry
		want int
	}{
		{"no entries", nil, 1},
		{"an empty list", []api.PlantEntry{}, 1},
		{"example", []api.PlantEntry{by("a", "")}, 23450233},
		{"twice", []api.PlantEntry{by("a", ""), by("a", "")}, bookSeal(slices.Repeat([]api.PlantEntry{by("a", "")}, 2))},
		{"bytes", []api.PlantEntry{by("\xff\x00é", "\x00 \xff\t\r")}, bookSeal([]api.PlantEntry{by("\xff\x00é", "\x00 \xff\t\r")})},
		{"a log", logOf(certified()...), bookSeal(logOf(certified()...))},
		{"as long as may be", slices.Repeat([]api.PlantEntry{by("\xff", strings.Repeat("\xff", 2200))}, 60), bookSeal(slices.Repeat([]api.PlantEntry{by("\xff", strings.Repeat("\xff", 2200))}, 60))},
	} {
		seal, e := plant.Seal(x.log)
		wantSame(t, x.name, seal, e, x.want, api.OK)
	}
	seals := map[int]bool{}
	for _, log := range [][]api.PlantEntry{
		nil, {by("a", "")}, {by("a", "b")}, {by("ab", "")}, {by("b", "a")}, {by("a", ""), by("b", "")}, {by("b", ""), by("a", "")}, {by("a", "b"), by("c", "d")}, {by("a", "b\rc"), by("d", "")},
	} {
		seals[must[int](t)(plant.Seal(log))] = true
	}
	wantSeen(t, "different seals", len(seals), 9)
}

// P10.7: journals.
func TestJournal(t *testing.T) {
	text, e := plant.Journal(nil)
	wantSame(t, "no entries", text, e, "", api.OK)
	text, e = plant.Journal([]api.PlantEntry{by("a", "")})
	wantSame(t, "example", text, e, "23450233 a \n", api.OK)
	log := logOf(certified()...)
	want := ""
	for i, x := range log {
		want += strconv.Itoa(bookSeal(log[:i+1])) + " " + x.By + " " + x.Text + "\n"
	}
	text, e = plant.Journal(log)
	wantSame(t, "the chapter's first example", text, e, want, api.OK)
	odd := []api.PlantEntry{by("é\x00", " two  blanks "), by("1", ""), by("1", " ")}
	text, e = plant.Journal(odd)
	want = strconv.Itoa(bookSeal(odd[:1])) + " é\x00  two  blanks \n" + strconv.Itoa(bookSeal(odd[:2])) + " 1 \n" + strconv.Itoa(bookSeal(odd)) + " 1  \n"
	wantSame(t, "blanks", text, e, want, api.OK)
	got, size, e := plant.Recover(text)
	wantSame(t, "blanks, again", got, e, odd, api.OK)
	wantSame(t, "their bytes", size, e, len(text), api.OK)
}

// P10.7: the errors of entries, the first one of them.
func TestEntriesErrors(t *testing.T) {
	long, right := strings.Repeat("x", 2201), by("a", "b")
	for _, x := range []struct {
		name  string
		log   []api.PlantEntry
		errno api.Errno
	}{
		{"as many as there may be", slices.Repeat([]api.PlantEntry{right}, 60), api.OK},
		{"one too many", slices.Repeat([]api.PlantEntry{right}, 61), api.ErrLarge},
		{"one too many, the first one wrong", append([]api.PlantEntry{{}}, slices.Repeat([]api.PlantEntry{right}, 60)...), api.ErrLarge},
		{"By is empty", []api.PlantEntry{right, by("", "b")}, api.ErrForm},
		{"an empty entry", []api.PlantEntry{{}}, api.ErrForm},
		{"By has a blank", []api.PlantEntry{right, right, by("a b", "c")}, api.ErrForm},
		{"By is a blank", []api.PlantEntry{by(" ", "c")}, api.ErrForm},
		{"By has a line feed", []api.PlantEntry{by("a\n", "c")}, api.ErrForm},
		{"By has other bytes", []api.PlantEntry{by("\ta\r\x00é", "c")}, api.OK},
		{"By is long", []api.PlantEntry{by(long, "c")}, api.OK},
		{"Text has a line feed", []api.PlantEntry{by("a", "b\n")}, api.ErrForm},
		{"Text is a line feed", []api.PlantEntry{by("a", "\n")}, api.ErrForm},
		{"Text has other bytes", []api.PlantEntry{by("a", "\r\t \x00\xff")}, api.OK},
		{"as many bytes as may be", []api.PlantEntry{by("a", long[1:])}, api.OK},
		{"a byte too many", []api.PlantEntry{right, by("a", long)}, api.ErrLarge},
		{"a byte too many, and a line feed", []api.PlantEntry{by("a", long+"\n")}, api.ErrForm},
		{"a byte too many, By is empty", []api.PlantEntry{by("", long)}, api.ErrForm},
		{"the first wrong one", []api.PlantEntry{by("a", long), by("", "")}, api.ErrLarge},
		{"the first wrong one, the other way round", []api.PlantEntry{by("", ""), by("a", long)}, api.ErrForm},
	} {
		seal, e := plant.Seal(x.log)
		wantErrno(t, x.name+", Seal", e, x.errno)
		wantNone[int](t, "Seal")(seal, e)
		text, e := plant.Journal(x.log)
		wantErrno(t, x.name+", Journal", e, x.errno)
		wantNone[string](t, "Journal")(text, e)
	}
}

// lined returns a right line behind a log.
func lined(log []api.PlantEntry, person, text string) string {
	return strconv.Itoa(bookSeal(append(slices.Clone(log), by(person, text)))) + " " + person + " " + text + "\n"
}

// P10.7: what Recover takes for a line that is whole and right, behind another one.
func TestRecover(t *testing.T) {
	log := []api.PlantEntry{by("ann", "switch pump")}
	first := lined(nil, "ann", "switch pump")
	next := strconv.Itoa(bookSeal(append(slices.Clone(log), by("b", "c"))))
	for _, x := range []struct {
		name, line string
		entries    []api.PlantEntry
	}{
		{"right", next + " b c\n", []api.PlantEntry{by("b", "c")}},
		{"an empty text", lined(log, "b", ""), []api.PlantEntry{by("b", "")}},
		{"a text of blanks", lined(log, "b", "  "), []api.PlantEntry{by("b", "  ")}},
		{"as many bytes as may be", lined(log, "b", strings.Repeat("x", 2200)), []api.PlantEntry{by("b", strings.Repeat("x", 2200))}},
		{"a long By", lined(log, strings.Repeat("x", 2201), "c"), []api.PlantEntry{by(strings.Repeat("x", 2201), "c")}},
		{"a byte too many", lined(log, "b", strings.Repeat("x", 2201)), nil},
		{"By is empty", lined(log, "", "c"), nil},
		{"By is empty, the text too", lined(log, "", ""), nil},
		{"no text", strings.TrimSuffix(lined(log, "b", ""), " \n") + "\n", nil},
		{"no line feed", next + " b c", nil},
		{"another seal", "1 b c\n", nil},
		{"the seal of another log", lined(nil, "b", "c"), nil},
		{"the seal alone", next + "\n", nil},
		{"a zero in front", "0" + next + " b c\n", nil},
		{"a plus sign", "+" + next + " b c\n", nil},
		{"modulo the prime", strconv.Itoa(bookSeal(append(slices.Clone(log), by("b", "c")))+998244353) + " b c\n", nil},
		{"a blank in front", " " + next + " b c\n", nil},
		{"two blanks", next + "  b c\n", nil},
		{"a tab", next + "\tb c\n", nil},
		{"a carriage return", next + " b c\r\n", nil},
		{"an empty line", "\n", nil},
		{"nothing", "", nil},
		{"something", "x", nil},
		{"a line feed ahead of the line", "\n" + next + " b c\n", nil},
	} {
		got, size, e := plant.Recover(first + x.line)
		wantSame(t, x.name, got, e, append(slices.Clone(log), x.entries...), api.OK)
		want := len(first)
		if x.entries != nil {
			want += len(x.line)
		}
		wantSame(t, x.name+", its bytes", size, e, want, api.OK)
		if x.entries != nil || !strings.HasSuffix(x.line, "\n") {
			continue
		}
		got, size, e = plant.Recover(first + x.line + lined(log, "b", "c"))
		wantSame(t, x.name+", and a right line behind it", got, e, log, api.OK)
		wantSame(t, x.name+", the bytes then", size, e, len(first), api.OK)
	}
}

// P10.7: how long a journal may be, and how many lines are read of it.
func TestLongJournals(t *testing.T) {
	log := slices.Repeat([]api.PlantEntry{by("ann", strings.Repeat("x", 2200))}, 60)
	text := must[string](t)(plant.Journal(log))
	got, size, e := plant.Recover(text)
	wantSame(t, "as many as there may be", got, e, log, api.OK)
	wantSame(t, "their bytes", size, e, len(text), api.OK)
	longer := text + lined(log, "b", "c")
	got, size, e = plant.Recover(longer)
	wantSame(t, "one more", got, e, log, api.OK)
	wantSame(t, "the bytes of those that are read", size, e, len(text), api.OK)
	full := text + strings.Repeat("x", api.MaxPlantJournal-len(text))
	got, size, e = plant.Recover(full)
	wantSame(t, "as many bytes as may be", got, e, log, api.OK)
	wantSame(t, "the bytes of right lines", size, e, len(text), api.OK)
	got, size, e = plant.Recover(full + "x")
	wantSame(t, "a byte too many", got, e, nil, api.ErrLarge)
	wantSame(t, "its bytes", size, e, 0, api.ErrLarge)
	got, size, e = plant.Recover("")
	wantSame(t, "an empty journal", got, e, nil, api.OK)
	wantSame(t, "its bytes", size, e, 0, api.OK)
}

// linesOf returns how many whole lines the first bytes of a text have, and how many bytes these lines have.
func linesOf(text string, bytes int) (lines, size int) {
	return strings.Count(text[:bytes], "\n"), strings.LastIndex(text[:bytes], "\n") + 1
}

// P10.7, P10.12: a journal that is cut at any byte gives the lines that are whole, and the whole one gives all.
func TestCutJournals(t *testing.T) {
	logs := [][]api.PlantEntry{nil, {by("a", "")}, logOf(certified()...), askedLog(), {by("é", " x "), by("b", "  "), by("c", "")}}
	r := draws(3)
	for range 4 {
		logs = append(logs, drawnLog(r, rich(), 30, func(book, api.PlantEntry, api.Errno) {}))
	}
	for _, log := range logs {
		text := must[string](t)(plant.Journal(log))
		for cut := range len(text) + 1 {
			lines, size := linesOf(text, cut)
			got, n, e := plant.Recover(text[:cut])
			wantSame(t, "cut at "+strconv.Itoa(cut), got, e, log[:lines], api.OK)
			wantSame(t, "its bytes", n, e, size, api.OK)
		}
		if lines, size := linesOf(text, len(text)); lines != len(log) || size != len(text) {
			t.Errorf("%d lines with %d bytes of a journal with %d entries and %d bytes", lines, size, len(log), len(text))
		}
	}
}

// P10.7: a journal that is changed at one byte gives the lines ahead of this one, and, but for a line feed, nothing else.
func TestChangedJournals(t *testing.T) {
	for _, log := range [][]api.PlantEntry{logOf(certified()...), {by("a", ""), by("b", " "), by("c", "d")}} {
		text := must[string](t)(plant.Journal(log))
		for i := range len(text) {
			for _, c := range []byte{0, 1, '\n', ' ', '0', '1', '9', 'a', 0xff, text[i] + 1, text[i] - 1, text[i] ^ 0x80} {
				if c == text[i] {
					continue
				}
				lines, size := linesOf(text, i)
				got, n, e := plant.Recover(text[:i] + string([]byte{c}) + text[i+1:])
				wantSame(t, "changed at "+strconv.Itoa(i), got, e, log[:lines], api.OK)
				wantSame(t, "its bytes", n, e, size, api.OK)
			}
		}
	}
}

// P10.7: lines that are left out, or stand in another order, are not right.
func TestOtherLines(t *testing.T) {
	log := logOf(certified()...)
	lines := strings.SplitAfter(must[string](t)(plant.Journal(log)), "\n")
	lines = lines[:len(lines)-1]
	for i := range lines {
		got, _, e := plant.Recover(strings.Join(slices.Delete(slices.Clone(lines), i, i+1), ""))
		wantSame(t, "without the line "+strconv.Itoa(i), got, e, log[:i], api.OK)
		got, _, e = plant.Recover(strings.Join(slices.Insert(slices.Clone(lines), i, lines[i]), ""))
		wantSame(t, "twice the line "+strconv.Itoa(i), got, e, log[:i+1], api.OK)
		if i > 0 {
			swapped := slices.Clone(lines)
			swapped[i-1], swapped[i] = swapped[i], swapped[i-1]
			got, _, e = plant.Recover(strings.Join(swapped, ""))
			wantSame(t, "the line "+strconv.Itoa(i)+" ahead", got, e, log[:i-1], api.OK)
		}
	}
}
