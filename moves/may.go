package moves

import (
	"iter"

	"gameroom/api"
	"gameroom/pieces"
)

// moves that may be made, in order.
func (s *state) moves() iter.Seq[api.Move] {
	return func(yield func(api.Move) bool) {
		free := s.free()
		for from := range s.own().each() {
			for m := range s.movesFrom(from) {
				if free&just(from) == 0 && s.exposes(m) {
					continue
				}
				if !yield(m) {
					return
				}
			}
		}
	}
}

// movesFrom a place, in order, whether the king is attacked behind them or not.
func (s *state) movesFrom(from int) iter.Seq[api.Move] {
	return func(yield func(api.Move) bool) {
		for to := range s.targets(from).each() {
			first, last := 0, 0
			if s.kindOn(from) == api.Pawn && onEdge(to) {
				first, last = api.Knight, api.Queen
			}
			for into := first; into <= last; into++ {
				if !yield(api.Move{From: from, To: to, Into: into}) {
					return
				}
			}
		}
	}
}

// onEdge: is it a place of the first or last rank?
func onEdge(place int) bool {
	return place < pieces.Wide || place >= pieces.Places-pieces.Wide
}

// own pieces of the mover: their places.
func (s *state) own() set {
	var l set
	for place := range s.places {
		if s.holds(place, s.turn) {
			l |= just(place)
		}
	}
	return l
}

// free: the mover's pieces that can leave their places and not expose the king: those that stand in no line with it, unless there is check. A pawn that takes another one in passing empties that one's place, too.
func (s *state) free() set {
	king := s.king()
	if s.attacked(king) {
		return 0
	}
	l := s.own() &^ just(king)
	for place := range pieces.Reach(api.Queen, king, s.empty) {
		l &^= just(place)
	}
	if s.passed != pieces.Nowhere {
		for place := range pieces.Reach(pieces.Of(pieces.Other(s.turn), api.Pawn), s.passed, s.empty) {
			l &^= just(place)
		}
	}
	return l
}

// targets of the piece on a place.
func (s *state) targets(from int) set {
	var l set
	for to := range pieces.Reach(s.places[from], from, s.empty) {
		if s.mayEnter(from, to) {
			l |= just(to)
		}
	}
	switch s.kindOn(from) {
	case api.Pawn:
		l |= s.ahead(from)
	case api.King:
		l |= s.castles()
	}
	return l
}

// mayEnter: may a piece move to a place that it attacks?
func (s *state) mayEnter(from, to int) bool {
	if s.kindOn(from) == api.Pawn {
		return to == s.passed || s.holds(to, pieces.Other(s.turn))
	}
	return !s.holds(to, s.turn)
}

// ahead: the places straight forward of a pawn that it may come to.
func (s *state) ahead(from int) set {
	forward := pieces.Forward(s.turn)
	one := from + forward
	if !s.empty(one) {
		return 0
	}
	l := just(one)
	// Behind a pawn on its first rank there is just the edge.
	if onEdge(from-forward) && s.empty(one+forward) {
		l |= just(one + forward)
	}
	return l
}

// castles: where the king comes to by castling.
func (s *state) castles() set {
	var l set
	for i, c := range pieces.Castlings() {
		if c.Side == s.turn && s.castle&(1<<i) != 0 && s.mayCastle(c) {
			l |= just(c.To())
		}
	}
	return l
}

// mayCastle: is nothing in the way, and nothing attacked where the king goes along?
func (s *state) mayCastle(c pieces.Castling) bool {
	for place := range c.Between() {
		if !s.empty(place) {
			return false
		}
	}
	return !s.attacked(c.King) && !s.attacked(c.Over()) && !s.attacked(c.To())
}

func (s *state) canMove() bool {
	for range s.moves() {
		return true
	}
	return false
}

// has: may a move be made?
func (s *state) has(m api.Move) bool {
	for may := range s.moves() {
		if may == m {
			return true
		}
	}
	return false
}

// count rows of so many moves.
func (s *state) count(left int) int {
	if left == 0 {
		return 1
	}
	n := 0
	for m := range s.moves() {
		if left == 1 { // what comes of the last move does not matter
			n++
			continue
		}
		next := s.after(m)
		n += next.count(left - 1)
	}
	return n
}
