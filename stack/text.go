package stack

import (
	"strconv"
	"strings"

	"etalon/api"
	"etalon/text"
)

// The marks of a text.
const (
	markPart  = " "
	markLayer = ","
	markThick = ":"
	markTimes = "*"
	markBack  = "~"
)

// noName is the bytes that no name of a text has.
const noName = markPart + markLayer + markThick + markTimes + markBack + "\n"

// mostDigits is how many digits the numbers of a text may have.
const mostDigits = 7

// FormatStack returns the text of a stack, also of a wrong one.
func FormatStack(l []api.StackPart) string {
	parts := make([]string, len(l))
	for i, p := range l {
		parts[i] = formatPart(p)
	}
	return strings.Join(parts, markPart)
}

func formatPart(p api.StackPart) string {
	layers := make([]string, len(p.Layers))
	for i, layer := range p.Layers {
		layers[i] = layer.Name + markThick + strconv.Itoa(layer.Thick)
	}
	s := strings.Join(layers, markLayer)
	if p.Times != 1 {
		s += markTimes + strconv.Itoa(p.Times)
	}
	if p.Back {
		s += markBack
	}
	return s
}

// ParseStack returns the stack with this text.
func ParseStack(s string) ([]api.StackPart, api.Errno) {
	if len(s) > api.MaxStackLine {
		return nil, api.ErrLarge
	}
	if s == "" {
		return nil, api.OK
	}
	var l []api.StackPart
	for word := range strings.SplitSeq(s, markPart) {
		p, ok := parsePart(word)
		if !ok {
			return nil, api.ErrSyntax
		}
		l = append(l, p)
	}
	if _, e := CheckParts(l); e != api.OK {
		return nil, e
	}
	return l, api.OK
}

// parsePart returns the part with a text, and whether there is one.
func parsePart(s string) (api.StackPart, bool) {
	p := api.StackPart{Times: 1}
	s, p.Back = strings.CutSuffix(s, markBack)
	s, times, many := strings.Cut(s, markTimes)
	if many {
		n, ok := text.Number(times, mostDigits)
		if !ok || n == 1 {
			return api.StackPart{}, false
		}
		p.Times = n
	}
	for word := range strings.SplitSeq(s, markLayer) {
		layer, ok := parseLayer(word)
		if !ok {
			return api.StackPart{}, false
		}
		p.Layers = append(p.Layers, layer)
	}
	return p, true
}

// parseLayer returns the layer with a text, and whether there is one.
func parseLayer(s string) (api.StackLayer, bool) {
	name, thick, _ := strings.Cut(s, markThick)
	n, ok := text.Number(thick, mostDigits)
	if !ok || strings.ContainsAny(name, noName) {
		return api.StackLayer{}, false
	}
	// A part of the text would be memory of the argument.
	return api.StackLayer{Name: strings.Clone(name), Thick: n}, true
}
