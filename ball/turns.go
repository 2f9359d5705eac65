package ball

import (
	"etalon/api"
	"etalon/span"
	"etalon/whole"
)

// Parts of turns.
const (
	halfTurn    = api.TurnParts / 2
	quarterTurn = api.TurnParts / 4
	eighthTurn  = api.TurnParts / 8
)

// eighthPart is the root of half the square of MaxBall, rounded down.
const eighthPart = 47453132

// direction returns the direction of m parts of a turn.
func direction(m int) centre {
	// The last 22 bits are those of m from 0 to TurnParts - 1, below 0 too.
	m &= api.TurnParts - 1
	switch {
	case m >= halfTurn:
		return direction(m - halfTurn).times(-1)
	case m >= quarterTurn:
		return direction(m - quarterTurn).times(1i)
	case m > eighthTurn:
		parts := direction(quarterTurn - m).parts()
		return centreAt(parts[1], parts[0])
	}
	return halved(m)
}

// halved returns the direction of m parts, from 0 to an eighth of a turn, by halves.
func halved(m int) centre {
	low, high := 0, eighthTurn
	from, to := centreAt(api.MaxBall, 0), centreAt(eighthPart, eighthPart)
	if m == high {
		return to
	}
	for low != m {
		half, between := (low+high)/2, bisector(from, to)
		if half <= m {
			low, from = half, between
		} else {
			high, to = half, between
		}
	}
	return from
}

// bisector returns the direction between two ones in the first eighth.
func bisector(from, to centre) centre {
	sum := from.plus(to)
	size, parts := sum.down(), sum.parts()
	return centreAt(whole.Lower(parts[0], api.MaxBall, size), whole.Lower(parts[1], api.MaxBall, size))
}

// Arc returns the ball of an arc.
func Arc(r api.Range) (api.Ball, api.Errno) {
	if e := span.Check(r, -api.MostParts, api.MostParts); e != api.OK {
		return api.Ball{}, e
	}
	return arc(r)
}

// arc is Arc without a limit of parts: those of Unit may be beyond MostParts.
func arc(r api.Range) (api.Ball, api.Errno) {
	middle := whole.Lower(r.Lo+r.Hi, 1, 2)
	c, _ := direction(middle).scaled(1, api.MaxBall/api.One)
	radius := 2 + whole.Upper(r.Hi-middle, 11, 7)
	if r.Lo == r.Hi && r.Lo%quarterTurn == 0 {
		radius = 0
	}
	return disc{c, radius}.ball()
}

// Unit returns the ball of the unit number of num / den of a turn.
func Unit(num, den int) (api.Ball, api.Errno) {
	if e := checkFrac(num, den); e != api.OK {
		return api.Ball{}, e
	}
	return arc(api.Range{Lo: whole.Lower(num, api.TurnParts, den), Hi: whole.Upper(num, api.TurnParts, den)})
}
