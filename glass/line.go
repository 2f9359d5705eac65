package glass

import (
	"etalon/api"
	"etalon/text"
	"etalon/whole"
)

// mostDigits is how many digits the numbers of a text may have.
const mostDigits = 7

// mistake is what a wrong line stops its reader with.
type mistake struct {
	mark  api.TextMark
	errno api.Errno
}

// word is a word of a line, and the column of its first byte.
type word struct {
	text   string
	column int
}

// line is a line, by its number from 1 on, whose words are taken one by one.
type line struct {
	place int
	words []word
	taken int
}

func lineOf(s string, place int) line {
	l := line{place: place}
	for from := 0; from < len(s); {
		to := from
		for to < len(s) && s[to] != ' ' && s[to] != '\t' {
			to++
		}
		if to > from {
			l.words = append(l.words, word{s[from:to], from + 1})
		}
		from = to + 1
	}
	return l
}

func (l *line) left() int { return len(l.words) - l.taken }

// next takes the next word, or stops at the end of the line (which has a word at least).
func (l *line) next() string {
	if l.left() == 0 {
		last := l.words[len(l.words)-1]
		panic(mistake{api.TextMark{Line: l.place, Column: last.column + len(last.text)}, api.ErrMissing})
	}
	l.taken++
	return l.words[l.taken-1].text
}

// mark returns the mark of the word that was taken last.
func (l *line) mark() api.TextMark {
	return api.TextMark{Line: l.place, Column: l.words[l.taken-1].column}
}

// stop stops the reader at the word that was taken last.
func (l *line) stop(e api.Errno) { panic(mistake{l.mark(), e}) }

// number takes a number from least to most.
func (l *line) number(least, most int) int {
	n, ok := text.Number(l.next(), mostDigits)
	if !ok {
		l.stop(api.ErrSyntax)
	}
	if !whole.Within(n, least, most) {
		l.stop(api.ErrRange)
	}
	return n
}
