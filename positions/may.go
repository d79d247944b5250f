package positions

import (
	"iter"

	"gameroom/api"
	"gameroom/pieces"
)

// Moves that may be made, in order.
func (p *Position) Moves() iter.Seq[api.Move] {
	return func(yield func(api.Move) bool) {
		free := p.free()
		for from := range p.own().each() {
			for m := range p.movesFrom(from) {
				if free&just(from) == 0 && p.exposes(m) {
					continue
				}
				if !yield(m) {
					return
				}
			}
		}
	}
}

// movesFrom a place, in order, whether the king is attacked behind them or not.
func (p *Position) movesFrom(from int) iter.Seq[api.Move] {
	return func(yield func(api.Move) bool) {
		for to := range p.targets(from).each() {
			first, last := 0, 0
			if p.kindOn(from) == api.Pawn && onEdge(to) {
				first, last = api.Knight, api.Queen
			}
			for into := first; into <= last; into++ {
				if !yield(api.Move{From: from, To: to, Into: into}) {
					return
				}
			}
		}
	}
}

// onEdge: is it a place of the first or last rank?
func onEdge(place int) bool {
	return place < pieces.Wide || place >= pieces.Places-pieces.Wide
}

// own pieces of the mover: their places.
func (p *Position) own() set {
	var l set
	for place := range p.Places {
		if p.holds(place, p.Turn) {
			l |= just(place)
		}
	}
	return l
}

// free: the mover's pieces that can leave their places and not expose the king: those that stand in no line with it, unless there is check. A pawn that takes another one in passing empties that one's place, too.
func (p *Position) free() set {
	king := p.king()
	if p.attacked(king) {
		return 0
	}
	l := p.own() &^ just(king)
	for place := range pieces.Reach(api.Queen, king, p.empty) {
		l &^= just(place)
	}
	if p.Passed != pieces.Nowhere {
		for place := range pieces.Reach(pieces.Of(pieces.Other(p.Turn), api.Pawn), p.Passed, p.empty) {
			l &^= just(place)
		}
	}
	return l
}

// targets of the piece on a place.
func (p *Position) targets(from int) set {
	var l set
	for to := range pieces.Reach(p.Places[from], from, p.empty) {
		if p.mayEnter(from, to) {
			l |= just(to)
		}
	}
	switch p.kindOn(from) {
	case api.Pawn:
		l |= p.ahead(from)
	case api.King:
		l |= p.castles()
	}
	return l
}

// mayEnter: may a piece move to a place that it attacks?
func (p *Position) mayEnter(from, to int) bool {
	if p.kindOn(from) == api.Pawn {
		return to == p.Passed || p.holds(to, pieces.Other(p.Turn))
	}
	return !p.holds(to, p.Turn)
}

// ahead: the places straight forward of a pawn that it may come to.
func (p *Position) ahead(from int) set {
	forward := pieces.Forward(p.Turn)
	one := from + forward
	if !p.empty(one) {
		return 0
	}
	l := just(one)
	// Behind a pawn on its first rank there is just the edge.
	if onEdge(from-forward) && p.empty(one+forward) {
		l |= just(one + forward)
	}
	return l
}

// castles: where the king comes to by castling.
func (p *Position) castles() set {
	var l set
	for i, c := range pieces.Castlings() {
		if c.Side == p.Turn && p.Castle&(1<<i) != 0 && p.mayCastle(c) {
			l |= just(c.To())
		}
	}
	return l
}

// mayCastle: is nothing in the way, and nothing attacked where the king goes along?
func (p *Position) mayCastle(c pieces.Castling) bool {
	for place := range c.Between() {
		if !p.empty(place) {
			return false
		}
	}
	return !p.attacked(c.King) && !p.attacked(c.Over()) && !p.attacked(c.To())
}

// CanMove: may any move be made?
func (p *Position) CanMove() bool {
	for range p.Moves() {
		return true
	}
	return false
}

// Mated: is there check, and nothing can be done?
func (p *Position) Mated() bool { return p.InCheck() && !p.CanMove() }

// Stuck: can nothing be done, though there is no check?
func (p *Position) Stuck() bool { return !p.InCheck() && !p.CanMove() }

// Has: may a move be made?
func (p *Position) Has(m api.Move) bool {
	for may := range p.Moves() {
		if may == m {
			return true
		}
	}
	return false
}
