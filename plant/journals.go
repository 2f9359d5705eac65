package plant

import (
	"strconv"
	"strings"

	"etalon/api"
)

const (
	firstSeal = 1   // the seal of no entries
	sealTimes = 257 // what each byte multiplies a seal by
	lineWords = 3   // what a line of a journal has: seal, By and Text
)

// checkEntries returns the first error of entries.
func checkEntries(log []api.PlantEntry) api.Errno {
	if len(log) > api.MaxPlantLog {
		return api.ErrLarge
	}
	_, e := firstWrong(log, func(_ int, x api.PlantEntry) api.Errno {
		switch {
		case x.By == "" || strings.ContainsAny(x.By, blank+lineFeed) || strings.Contains(x.Text, lineFeed):
			return api.ErrForm
		case len(x.Text) > api.MaxPlantEntry:
			return api.ErrLarge
		}
		return api.OK
	})
	return e
}

// sealed returns the seal of a log with one more entry.
func sealed(seal int, x api.PlantEntry) int {
	for _, c := range []byte(x.By + lineFeed + x.Text + lineFeed) {
		seal = (seal*sealTimes + int(c) + 1) % api.PlantPrime
	}
	return seal
}

// Seal returns the seal of a log.
func Seal(log []api.PlantEntry) (int, api.Errno) {
	if e := checkEntries(log); e != api.OK {
		return 0, e
	}
	seal := firstSeal
	for _, x := range log {
		seal = sealed(seal, x)
	}
	return seal, api.OK
}

// Journal returns the journal of a log.
func Journal(log []api.PlantEntry) (string, api.Errno) {
	if e := checkEntries(log); e != api.OK {
		return "", e
	}
	var all strings.Builder
	seal := firstSeal
	for _, x := range log {
		seal = sealed(seal, x)
		all.WriteString(sentence(strconv.Itoa(seal), x.By, x.Text) + lineFeed)
	}
	return all.String(), api.OK
}

// Recover returns the entries of the first lines of a journal that are whole and right, and how many bytes these have.
func Recover(journal string) ([]api.PlantEntry, int, api.Errno) {
	if len(journal) > api.MaxPlantJournal {
		return nil, 0, api.ErrLarge
	}
	var log []api.PlantEntry
	seal, size := firstSeal, 0
	for line := range strings.Lines(journal) {
		if len(log) == api.MaxPlantLog {
			break
		}
		x, ok := readLine(line, seal)
		if !ok {
			break
		}
		log, seal, size = append(log, x), sealed(seal, x), size+len(line)
	}
	return log, size, api.OK
}

// readLine returns the entry of a line behind a log with a seal, and whether the line is whole and right.
func readLine(line string, seal int) (api.PlantEntry, bool) {
	line, ended := strings.CutSuffix(line, lineFeed)
	// Blanks of the text stay with it.
	words := strings.SplitN(line, blank, lineWords)
	if !ended || len(words) != lineWords {
		return api.PlantEntry{}, false
	}
	// A part of the journal would be memory of the argument.
	x := api.PlantEntry{By: strings.Clone(words[1]), Text: strings.Clone(words[2])}
	return x, x.By != "" && len(x.Text) <= api.MaxPlantEntry && words[0] == strconv.Itoa(sealed(seal, x))
}
