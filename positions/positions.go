// Package positions: positions of chess as values, what may be done there, and what comes of it.
package positions

import (
	"slices"

	"gameroom/api"
	"gameroom/pieces"
)

// Position that may be, as a value, so that a move leaves the one ahead of it as it was.
type Position struct {
	Places       [pieces.Places]int
	Turn, Castle int
	Passed       int // EnPassant
	Half, Full   int
}

// Of a position of the given type, if it may be (chess.May).
func Of(c api.Chess) Position {
	p := Position{Turn: c.Turn, Castle: c.Castle, Passed: c.EnPassant, Half: c.Half, Full: c.Full}
	copy(p.Places[:], c.Places)
	return p
}

// Told as a position of the given type.
func (p *Position) Told() api.Chess {
	return api.Chess{
		Places:    slices.Clone(p.Places[:]),
		Turn:      p.Turn,
		Castle:    p.Castle,
		EnPassant: p.Passed,
		Half:      p.Half,
		Full:      p.Full,
	}
}

func (p *Position) empty(place int) bool { return p.Places[place] == 0 }

// holds: does a piece of a side stand on a place? Turned to that side, its own pieces are above 0.
func (p *Position) holds(place, side int) bool { return pieces.Of(side, p.Places[place]) > 0 }

// kindOn a place.
func (p *Position) kindOn(place int) int { return pieces.Kind(p.Places[place]) }

// king of the mover: its place.
func (p *Position) king() int {
	return slices.Index(p.Places[:], pieces.Of(p.Turn, api.King))
}

// attacked: does the other side attack a place?
func (p *Position) attacked(place int) bool {
	return pieces.Attacked(p.Places[:], place, pieces.Other(p.Turn))
}

// InCheck: is the mover's king attacked?
func (p *Position) InCheck() bool { return p.attacked(p.king()) }

// exposes: would the mover's king be attacked behind a move?
func (p *Position) exposes(m api.Move) bool {
	l := p.placesAfter(m)
	return pieces.InCheck(l[:], p.Turn)
}

// After a move that may be made.
func (p *Position) After(m api.Move) Position {
	next := Position{
		Places: p.placesAfter(m),
		Turn:   pieces.Other(p.Turn),
		Castle: p.Castle &^ rightsLost(m),
		Passed: p.passedBy(m),
		Half:   min(p.Half+1, pieces.MostNumber),
		Full:   p.Full,
	}
	if p.kindOn(m.From) == api.Pawn || !p.empty(m.To) {
		next.Half = 0
	}
	if p.Turn == api.Black {
		next.Full = min(p.Full+1, pieces.MostNumber)
	}
	return next
}

// placesAfter a move, whether the king is attacked then or not.
func (p *Position) placesAfter(m api.Move) [pieces.Places]int {
	l := p.Places
	l[m.From], l[m.To] = 0, p.Places[m.From]
	if m.Into != 0 {
		l[m.To] = pieces.Of(p.Turn, m.Into)
	}
	if p.TakesPassed(m) {
		l[m.To-pieces.Forward(p.Turn)] = 0
	}
	if c, ok := p.castlingBy(m); ok {
		l[c.Rook], l[c.Over()] = 0, p.Places[c.Rook]
	}
	return l
}

// TakesPassed: does a move take the pawn that went over EnPassant?
func (p *Position) TakesPassed(m api.Move) bool {
	return m.To == p.Passed && p.kindOn(m.From) == api.Pawn
}

// passedBy a move: the place that a pawn goes over.
func (p *Position) passedBy(m api.Move) int {
	over := m.From + pieces.Forward(p.Turn)
	if p.kindOn(m.From) == api.Pawn && m.To == over+pieces.Forward(p.Turn) {
		return over
	}
	return pieces.Nowhere
}

// castlingBy a move, if it is one: no king goes so far else.
func (p *Position) castlingBy(m api.Move) (pieces.Castling, bool) {
	for _, c := range pieces.Castlings() {
		if p.kindOn(m.From) == api.King && m.From == c.King && m.To == c.To() {
			return c, true
		}
	}
	return pieces.Castling{}, false
}

// rightsLost by a move. Where a right is still there, its king stands on its first place.
func rightsLost(m api.Move) int {
	lost := 0
	for i, c := range pieces.Castlings() {
		if m.From == c.King || m.From == c.Rook || m.To == c.Rook {
			lost |= 1 << i
		}
	}
	return lost
}
