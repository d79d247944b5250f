// Package pieces: what the layers of chess ask of its pieces and places. Lists of places that are handed in have 64 numbers of pieces.
package pieces

import (
	"iter"

	"gameroom/api"
)

const (
	Wide   = 8
	Places = Wide * Wide
)

const (
	MostNumber = 999 // of half moves, and of moves
	Nowhere    = -1  // no place for EnPassant
)

// Castling: whose it is, and where the king and the rook stand at first.
type Castling struct{ Side, King, Rook int }

// Castlings in the order of their rights.
func Castlings() [4]Castling {
	return [4]Castling{
		{api.White, 4, 7},
		{api.White, 4, 0},
		{api.Black, 60, 63},
		{api.Black, 60, 56},
	}
}

// Over which place the king goes; there the rook comes to.
func (c Castling) Over() int { return c.King + c.toRook() }

// To which place the king comes.
func (c Castling) To() int { return c.King + 2*c.toRook() }

// toRook: a step from the king towards it.
func (c Castling) toRook() int {
	if c.Rook > c.King {
		return 1
	}
	return -1
}

// Between yields the places between king and rook, from the king on.
func (c Castling) Between() iter.Seq[int] {
	return func(yield func(int) bool) {
		for place := c.Over(); place != c.Rook && yield(place); place += c.toRook() {
		}
	}
}

// IsSide: is it one of the two sides?
func IsSide(side int) bool { return side == api.White || side == api.Black }

// Other of the two sides.
func Other(side int) int { return api.White + api.Black - side }

// Of a side and a kind: the piece.
func Of(side, kind int) int {
	if side == api.White {
		return kind
	}
	return -kind
}

// Kind of a piece.
func Kind(piece int) int { return max(piece, -piece) }

// Forward: how far on the next place is for a pawn of a side.
func Forward(side int) int { return Of(side, Wide) }
