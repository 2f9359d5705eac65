package glass

import (
	"strings"

	"etalon/api"
)

// The first words of lines.
const (
	wordGlass  = "glass"
	wordRow    = "row"
	wordCauchy = "cauchy"
	wordNote   = "note"
)

// Print returns the text of a catalogue.
func Print(l []api.Glass) (string, api.Errno) {
	if _, e := CheckCatalogue(l); e != api.OK {
		return "", e
	}
	var all strings.Builder
	for _, g := range l {
		all.WriteString(sentence(wordGlass, g.Name))
		for _, line := range materialOf(g).lines() {
			all.WriteString(line)
		}
	}
	return all.String(), api.OK
}

// sentence returns a line of words.
func sentence(words ...string) string { return strings.Join(words, " ") + "\n" }
