package endings

import (
	"iter"

	"gameroom/api"
	"gameroom/pieces"
)

const leastWide = 3

// board: how wide it is, and which piece stands on it beside the kings.
type board struct{ wide, piece int }

// mayBe: may there be such a state?
func (b board) mayBe(s api.End) bool {
	switch {
	case !b.isPlace(s.King) || !b.isPlace(s.Piece) || !b.isPlace(s.Other) || !pieces.IsSide(s.Turn):
		return false
	case s.Piece == s.King || s.Piece == s.Other || b.near(s.King, s.Other):
		return false
	}
	return s.Turn == api.Black || !b.inCheck(s)
}

func (b board) isPlace(place int) bool { return place >= 0 && place < b.wide*b.wide }

// near: are two places neighbours, or one and the same?
func (b board) near(x, y int) bool {
	files, ranks := x%b.wide-y%b.wide, x/b.wide-y/b.wide
	return max(files, -files, ranks, -ranks) <= 1
}

// inCheck: is the black king attacked? By the white one it never is.
func (b board) inCheck(s api.End) bool {
	for place := range b.reach(b.piece, s.Piece, s) {
		if place == s.Other {
			return true
		}
	}
	return false
}

// reach yields the places that a piece attacks from a place.
func (b board) reach(piece, from int, s api.End) iter.Seq[int] {
	return pieces.ReachOn(b.wide, piece, from, func(place int) bool {
		return place != s.King && place != s.Piece && place != s.Other
	})
}

// canTake: can black, if it is to move, take the piece?
func (b board) canTake(s api.End) bool {
	return b.near(s.Other, s.Piece) && !b.near(s.King, s.Piece)
}

// states yields all that may be.
func (b board) states() iter.Seq[api.End] {
	places := b.wide * b.wide
	return func(yield func(api.End) bool) {
		for i := range places * places * places * 2 {
			s := api.End{King: i / 2 % places, Piece: i / 2 / places % places, Other: i / 2 / places / places, Turn: i % 2}
			if b.mayBe(s) && !yield(s) {
				return
			}
		}
	}
}

// steps yields the states in which a side has moved one of its own from where it stands, the other Turn, and nothing else is unlike.
// As nothing is taken, each side's steps lead back, too: from a state, those of the side that is not to move lead to the states it can come from.
func (b board) steps(s api.End, side int) iter.Seq[api.End] {
	turn := pieces.Other(s.Turn)
	return func(yield func(api.End) bool) {
		goesOn := func(king, piece, other int) bool {
			t := api.End{King: king, Piece: piece, Other: other, Turn: turn}
			return !b.mayBe(t) || yield(t)
		}
		if side == api.Black {
			for place := range b.reach(api.King, s.Other, s) {
				if !goesOn(s.King, s.Piece, place) {
					return
				}
			}
			return
		}
		for place := range b.reach(api.King, s.King, s) {
			if !goesOn(place, s.Piece, s.Other) {
				return
			}
		}
		for place := range b.reach(b.piece, s.Piece, s) {
			if !goesOn(s.King, place, s.Other) {
				return
			}
		}
	}
}
