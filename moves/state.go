package moves

import (
	"slices"

	"gameroom/api"
	"gameroom/pieces"
)

// state of a game: a position that may be, as a value, so that a move leaves the one ahead of it as it was.
type state struct {
	places       [pieces.Places]int
	turn, castle int
	passed       int // EnPassant
	half, full   int
}

// seen: the state of a position that may be.
func seen(p api.Chess) state {
	s := state{turn: p.Turn, castle: p.Castle, passed: p.EnPassant, half: p.Half, full: p.Full}
	copy(s.places[:], p.Places)
	return s
}

// told: the position of a state.
func (s *state) told() api.Chess {
	return api.Chess{
		Places:    slices.Clone(s.places[:]),
		Turn:      s.turn,
		Castle:    s.castle,
		EnPassant: s.passed,
		Half:      s.half,
		Full:      s.full,
	}
}

func (s *state) empty(place int) bool { return s.places[place] == 0 }

// holds: does a piece of a side stand on a place? Turned to that side, its own pieces are above 0.
func (s *state) holds(place, side int) bool { return pieces.Of(side, s.places[place]) > 0 }

// kindOn a place.
func (s *state) kindOn(place int) int { return pieces.Kind(s.places[place]) }

// king of the mover: its place.
func (s *state) king() int {
	return slices.Index(s.places[:], pieces.Of(s.turn, api.King))
}

// attacked: does the other side attack a place?
func (s *state) attacked(place int) bool {
	return pieces.Attacked(s.places[:], place, pieces.Other(s.turn))
}

func (s *state) inCheck() bool { return s.attacked(s.king()) }

// exposes: would the mover's king be attacked behind a move?
func (s *state) exposes(m api.Move) bool {
	l := s.placesAfter(m)
	return pieces.InCheck(l[:], s.turn)
}

// after a move that may be made.
func (s *state) after(m api.Move) state {
	next := state{
		places: s.placesAfter(m),
		turn:   pieces.Other(s.turn),
		castle: s.castle &^ rightsLost(m),
		passed: s.passedBy(m),
		half:   min(s.half+1, pieces.MostNumber),
		full:   s.full,
	}
	if s.kindOn(m.From) == api.Pawn || !s.empty(m.To) {
		next.half = 0
	}
	if s.turn == api.Black {
		next.full = min(s.full+1, pieces.MostNumber)
	}
	return next
}

// placesAfter a move, whether the king is attacked then or not.
func (s *state) placesAfter(m api.Move) [pieces.Places]int {
	l := s.places
	l[m.From], l[m.To] = 0, s.places[m.From]
	if m.Into != 0 {
		l[m.To] = pieces.Of(s.turn, m.Into)
	}
	if s.takesPassed(m) {
		l[m.To-pieces.Forward(s.turn)] = 0
	}
	if c, ok := s.castlingBy(m); ok {
		l[c.Rook], l[c.Over()] = 0, s.places[c.Rook]
	}
	return l
}

// takesPassed: does a move take the pawn that went over EnPassant?
func (s *state) takesPassed(m api.Move) bool {
	return m.To == s.passed && s.kindOn(m.From) == api.Pawn
}

// passedBy a move: the place that a pawn goes over.
func (s *state) passedBy(m api.Move) int {
	over := m.From + pieces.Forward(s.turn)
	if s.kindOn(m.From) == api.Pawn && m.To == over+pieces.Forward(s.turn) {
		return over
	}
	return pieces.Nowhere
}

// castlingBy a move, if it is one: no king goes so far else.
func (s *state) castlingBy(m api.Move) (pieces.Castling, bool) {
	for _, c := range pieces.Castlings() {
		if s.kindOn(m.From) == api.King && m.From == c.King && m.To == c.To() {
			return c, true
		}
	}
	return pieces.Castling{}, false
}

// rightsLost by a move. Where a right is still there, its king stands on its first place.
func rightsLost(m api.Move) int {
	lost := 0
	for i, c := range pieces.Castlings() {
		if m.From == c.King || m.From == c.Rook || m.To == c.Rook {
			lost |= 1 << i
		}
	}
	return lost
}
