package othello

import (
	"iter"
	"math/bits"
)

// places of a board, a bit each. A line takes as many bits as the widest board has columns, so that a step in a direction is the same shift on each board.
type places uint64

// Where a step can end that leads away from a border.
const (
	notFirstColumn places = 0xfefefefefefefefe
	notLastColumn  places = 0x7f7f7f7f7f7f7f7f
	notFirstLine   places = 0xffffffffffffff00
	notLastLine    places = 0x00ffffffffffffff
)

// direction: by how much the bits are shifted, and where they may come to lie: elsewhere they would have gone round a border.
type direction struct {
	shift int
	to    places
}

var directions = [8]direction{
	{1, notFirstColumn},
	{-1, notLastColumn},
	{mostSide, notFirstLine},
	{-mostSide, notLastLine},
	{mostSide + 1, notFirstLine & notFirstColumn},
	{mostSide - 1, notFirstLine & notLastColumn},
	{1 - mostSide, notLastLine & notFirstColumn},
	{-1 - mostSide, notLastLine & notLastColumn},
}

// step: the places that lie beside those in a direction.
func (d direction) step(from places) places {
	return places(bits.RotateLeft64(uint64(from), d.shift)) & d.to
}

// placeOf a number, on a board of that width.
func placeOf(at, width int) places { return 1 << (at/width*mostSide + at%width) }

// first number of the places, on a board of that width.
func (p places) first(width int) int {
	bit := bits.TrailingZeros64(uint64(p))
	return bit/mostSide*width + bit%mostSide
}

// numbers of the places on a board of that width, rising.
func (p places) numbers(width int) iter.Seq[int] {
	return func(yield func(int) bool) {
		for place := range p.each() {
			if !yield(place.first(width)) {
				return
			}
		}
	}
}

// each yields the places one by one, rising.
func (p places) each() iter.Seq[places] {
	return func(yield func(places) bool) {
		for rest := p; rest != 0; rest &= rest - 1 {
			if !yield(rest & -rest) {
				return
			}
		}
	}
}

func (p places) count() int { return bits.OnesCount64(uint64(p)) }
