package rack

import (
	"slices"
	"strings"

	"etalon/api"
	"etalon/text"
)

const (
	blank  = " "
	noKind = "?" // the first word of an event of no kind
)

func kindWords() []string {
	return []string{api.EventCoat: "coat", api.EventWitness: "witness", api.EventStrip: "strip"}
}

// FormatEvent returns the text of an event, also of a wrong one.
func FormatEvent(x api.PartEvent) string {
	words := []string{noKind, x.Part, x.Batch}
	if isKind(x.Kind) {
		words[0] = kindWords()[x.Kind]
	}
	return strings.Join(words[:wordsOf(x.Kind)], blank)
}

// wordsOf returns how many words the text of an event has.
func wordsOf(kind int) int {
	if kind == api.EventStrip {
		return 2
	}
	return 3
}

// ParseEvent returns the event with this text.
func ParseEvent(s string) (api.PartEvent, api.Errno) {
	words := strings.Split(s, blank)
	kind := slices.Index(kindWords(), words[0])
	if kind < 0 || len(words) != wordsOf(kind) || slices.Contains(words, "") {
		return api.PartEvent{}, api.ErrSyntax
	}
	// A part of the text would be memory of the argument.
	x := api.PartEvent{Kind: kind, Part: strings.Clone(words[1])}
	if kind != api.EventStrip {
		x.Batch = strings.Clone(words[2])
	}
	if !text.IsName(x.Part) || kind != api.EventStrip && !text.IsName(x.Batch) {
		return api.PartEvent{}, api.ErrName
	}
	return x, api.OK
}
