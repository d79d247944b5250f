package pieces

import (
	"iter"
	"slices"

	"gameroom/api"
)

// steps of pieces, right and up. Each kind of piece has a stretch of them.
var steps = [16][2]int{
	{1, 0}, {0, 1}, {-1, 0}, {0, -1},
	{1, 1}, {-1, 1}, {1, -1}, {-1, -1},
	{1, 2}, {2, 1}, {2, -1}, {1, -2}, {-1, -2}, {-2, -1}, {-2, 1}, {-1, 2},
}

// Where in steps those of a kind begin.
const (
	straight  = 0
	slanting  = 4
	upwards   = slanting // as white's pawns go
	downwards = 6
	leaps     = 8
	endSteps  = 16
)

// stretch of the steps of a piece.
func stretch(piece int) (begin, end int) {
	switch piece {
	case api.Pawn:
		return upwards, downwards
	case -api.Pawn:
		return downwards, leaps
	}
	switch Kind(piece) {
	case api.Knight:
		return leaps, endSteps
	case api.Bishop:
		return slanting, leaps
	case api.Rook:
		return straight, slanting
	}
	return straight, leaps
}

// goesFar: does a piece step on as long as nothing is in the way?
func goesFar(piece int) bool {
	kind := Kind(piece)
	return kind == api.Bishop || kind == api.Rook || kind == api.Queen
}

// Reach yields the places that a piece attacks from a place, in no order.
func Reach(piece, from int, empty func(place int) bool) iter.Seq[int] {
	return ReachOn(Wide, piece, from, empty)
}

// ReachOn yields them on a board of so many files and ranks.
func ReachOn(wide, piece, from int, empty func(place int) bool) iter.Seq[int] {
	return func(yield func(int) bool) {
		begin, end := stretch(piece)
		ownFile, ownRank := from%wide, from/wide
		for i := begin; i < end; i++ {
			right, up := steps[i][0], steps[i][1]
			for file, rank := ownFile+right, ownRank+up; inside(wide, file, rank); file, rank = file+right, rank+up {
				to := rank*wide + file
				if !yield(to) {
					return
				}
				if !goesFar(piece) || !empty(to) {
					break
				}
			}
		}
	}
}

func inside(wide, file, rank int) bool {
	return file >= 0 && file < wide && rank >= 0 && rank < wide
}

// Attackers yields the places from which a side attacks a place, in no order.
func Attackers(l []int, at, by int) iter.Seq[int] {
	empty := func(place int) bool { return l[place] == 0 }
	return func(yield func(int) bool) {
		for kind := api.Pawn; kind <= api.King; kind++ {
			piece := Of(by, kind)
			// A piece attacks a place just if the other side's piece of its kind would attack it from there.
			for from := range Reach(-piece, at, empty) {
				if l[from] == piece && !yield(from) {
					return
				}
			}
		}
	}
}

// Attacked: does a side attack a place?
func Attacked(l []int, at, by int) bool {
	for range Attackers(l, at, by) {
		return true
	}
	return false
}

// InCheck: is the king of a side, which has one, attacked?
func InCheck(l []int, side int) bool {
	king := slices.Index(l, Of(side, api.King))
	return Attacked(l, king, Other(side))
}
