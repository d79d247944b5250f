package draughts

import (
	"iter"
	"math/bits"
)

// places of a board, a bit each, in order. Behind each two rows a bit stays free: so a slanting step is the same shift everywhere, and one over the border ends at no place.
type places uint64

const (
	perRow  = 4
	perPair = 2 * perRow
	pairs   = 4
	span    = perPair + 1 // bits of two rows
)

const (
	firstRow places = 1<<perRow - 1
	lastRow  places = firstRow << (pairs*span - 1 - perRow)
	firstTwo places = 1<<perPair - 1
	allRows  places = firstTwo | firstTwo<<span | firstTwo<<(2*span) | firstTwo<<(3*span)
)

// directions as shifts, upwards ahead of downwards. They rise: so what is found along them is in order.
var directions = [4]int{-perRow - 1, -perRow, perRow, perRow + 1}

// step: the places that lie beside those in a direction.
func (p places) step(direction int) places {
	return places(bits.RotateLeft64(uint64(p), direction)) & allRows
}

// placeOf a number.
func placeOf(number int) places {
	at := number - 1
	return 1 << (at + at/perPair)
}

// number of a place.
func (p places) number() int {
	bit := bits.TrailingZeros64(uint64(p))
	return bit - bit/span + 1
}

// each yields the places one by one, rising.
func (p places) each() iter.Seq[places] {
	return func(yield func(places) bool) {
		for rest := p; rest != 0; rest &= rest - 1 {
			if !yield(rest & -rest) {
				return
			}
		}
	}
}

func (p places) count() int { return bits.OnesCount64(uint64(p)) }
