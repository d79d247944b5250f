package draughts

import (
	"iter"

	"gameroom/api"
	"gameroom/grids"
)

// board as its mover sees it: the pieces of both sides, and which of them all are kings.
type board struct {
	own, other, kings places
	mover             int
}

// seen: a board that may be, as its mover sees it.
func seen(b api.Draughts) board {
	s := board{mover: b.Turn}
	for number := 1; number <= lastPlace; number++ {
		piece, place := b.Places[number], placeOf(number)
		switch owner(piece) {
		case grids.Nobody:
			continue
		case b.Turn:
			s.own |= place
		default:
			s.other |= place
		}
		if piece == king || piece == -king {
			s.kings |= place
		}
	}
	return s
}

// told: the board that its mover sees so.
func (b board) told() api.Draughts {
	l := make([]int, numbers)
	for place := range (b.own | b.other).each() {
		piece := man
		if place&b.kings != 0 {
			piece = king
		}
		if (place&b.own != 0) != (b.mover == grids.First) {
			piece = -piece
		}
		l[place.number()] = piece
	}
	return api.Draughts{Places: l, Turn: b.mover}
}

func (b board) empty() places { return allRows &^ (b.own | b.other) }

// goers: the mover's pieces that may go in a direction. The first player's men go upwards.
func (b board) goers(direction int) places {
	if (direction < 0) == (b.mover == grids.First) {
		return b.own
	}
	return b.own & b.kings
}

// crowning: where the mover's men become kings.
func (b board) crowning() places {
	if b.mover == grids.First {
		return firstRow
	}
	return lastRow
}

// jumps: can the mover make any?
func (b board) jumps() bool {
	for _, d := range directions {
		over := b.goers(d).step(d) & b.other
		if over.step(d)&b.empty() != 0 {
			return true
		}
	}
	return false
}

// ways of the mover, in order.
func (b board) ways() iter.Seq[way] {
	return func(yield func(way) bool) {
		goOn := b.stepFrom
		if b.jumps() {
			goOn = b.jumpOn
		}
		for from := range b.own.each() {
			if !goOn(begun(from), yield) {
				return
			}
		}
	}
}

// stepFrom yields all steps with which a way that has just begun can go on. It answers whether more ways are wanted.
func (b board) stepFrom(w way, yield func(way) bool) bool {
	for _, d := range directions {
		to := (w.first() & b.goers(d)).step(d) & b.empty()
		if to != 0 && !yield(w.on(to, 0)) {
			return false
		}
	}
	return true
}

// jumpOn yields all ways to which a way comes if it jumps on as long as it can. It answers whether more ways are wanted. (A man that comes to the last row stops there: ahead of it there is nothing.)
func (b board) jumpOn(w way, yield func(way) bool) bool {
	ended := true
	for _, d := range directions {
		if w.first()&b.goers(d) == 0 {
			continue
		}
		over := w.last().step(d) & b.other &^ w.over
		to := over.step(d) & (b.empty() | w.first())
		if to == 0 {
			continue
		}
		ended = false
		if !b.jumpOn(w.on(to, over), yield) {
			return false
		}
	}
	if ended && w.over != 0 {
		return yield(w)
	}
	return true
}

// after: what the other sees behind a way.
func (b board) after(w way) board {
	from, to := w.first(), w.last()
	kings := b.kings &^ (w.over | from)
	if (from&b.kings)|(to&b.crowning()) != 0 {
		kings |= to
	}
	return board{own: b.other &^ w.over, other: b.own&^from | to, kings: kings, mover: grids.Other(b.mover)}
}

// count rows of so many moves.
func (b board) count(left int) int {
	switch left {
	case 0:
		return 1
	case 1:
		return b.choices()
	}
	n := 0
	for w := range b.ways() {
		n += b.after(w).count(left - 1)
	}
	return n
}

// choices: how many ways there are. Steps are counted without being gone one by one: that is most of the work where rows are counted.
func (b board) choices() int {
	n := 0
	if b.jumps() {
		for range b.ways() {
			n++
		}
		return n
	}
	for _, d := range directions {
		n += (b.goers(d).step(d) & b.empty()).count()
	}
	return n
}
