package band

import (
	"slices"
	"strconv"
	"strings"

	"etalon/api"
	"etalon/stack"
	"etalon/text"
	"etalon/whole"
)

const (
	blank       = " "
	demandWords = 9 // words of the text of a demand
	mostDigits  = 7 // digits of its numbers
)

func shareWords() []string {
	return []string{api.ShareReflected: "reflected", api.ShareTransmitted: "transmitted", api.ShareAbsorbed: "absorbed"}
}

func polarWords() []string {
	return []string{api.PolarS: "s", api.PolarP: "p"}
}

// CheckDemand returns the first error of a demand.
func CheckDemand(d api.BandDemand) api.Errno {
	if !hasKinds(d) {
		return api.ErrKind
	}
	// From the index on, an ask checks light in the same order; what the light falls on is right here.
	light := job{api.BandTask{On: api.Substrate{Index: api.IndexOne}}, d}
	if _, e := stack.CheckAsk(light.ask(light.band())); e != api.OK {
		return e
	}
	if !whole.Within(d.Least, 0, api.ShareOne) || !whole.Within(d.Most, 0, api.ShareOne) {
		return api.ErrRange
	}
	if d.Least > d.Most {
		return api.ErrBreak
	}
	return api.OK
}

// hasKinds says whether the share and the polarisation are ones.
func hasKinds(d api.BandDemand) bool {
	return whole.Within(d.Share, 0, len(shareWords())-1) && whole.Within(d.Polar, 0, len(polarWords())-1)
}

// numbers returns the numbers of a demand, in the order of its text.
func numbers(d *api.BandDemand) []*int {
	return []*int{&d.Index, &d.Sine.Lo, &d.Sine.Hi, &d.Wave.Lo, &d.Wave.Hi, &d.Least, &d.Most}
}

// FormatDemand returns the text of a demand, also of a wrong one, but none if its share or polarisation is none.
func FormatDemand(d api.BandDemand) string {
	if !hasKinds(d) {
		return ""
	}
	words := []string{shareWords()[d.Share], polarWords()[d.Polar]}
	for _, n := range numbers(&d) {
		words = append(words, strconv.Itoa(*n))
	}
	return strings.Join(words, blank)
}

// ParseDemand returns the demand with this text.
func ParseDemand(s string) (api.BandDemand, api.Errno) {
	d, ok := readDemand(s)
	if !ok {
		return api.BandDemand{}, api.ErrSyntax
	}
	if e := CheckDemand(d); e != api.OK {
		return api.BandDemand{}, e
	}
	return d, api.OK
}

// readDemand returns the demand with a text, right or wrong, and whether the text is one.
func readDemand(s string) (api.BandDemand, bool) {
	// Words too many stay with the last one, which is no number then.
	words := strings.SplitN(s, blank, demandWords)
	if len(words) != demandWords {
		return api.BandDemand{}, false
	}
	d := api.BandDemand{Share: slices.Index(shareWords(), words[0]), Polar: slices.Index(polarWords(), words[1])}
	if !text.Numbers(words[2:], mostDigits, numbers(&d)...) {
		return api.BandDemand{}, false
	}
	return d, hasKinds(d)
}
