package problems

import (
	"iter"

	"gameroom/api"
	"gameroom/pieces"
	"gameroom/positions"
)

// What a mate is worth that is there already; no position is worth as little as worst.
const (
	mateWorth = 1000
	worst     = -mateWorth - 1
)

// mates yields the moves, in order, with which the mover mates in so many moves of its own at the most.
func mates(p positions.Position, most int) iter.Seq[api.Move] {
	return func(yield func(api.Move) bool) {
		for m := range p.Moves() {
			if lost(p.After(m), most-1) && !yield(m) {
				return
			}
		}
	}
}

// lost: is the mover mated, or can the other mate it in so many moves at the most, whatever it does?
func lost(p positions.Position, most int) bool {
	if most == 0 || !p.CanMove() {
		return p.Mated()
	}
	for m := range p.Moves() {
		if !canMate(p.After(m), most) {
			return false
		}
	}
	return true
}

// canMate: can the mover mate in so many moves of its own at the most?
func canMate(p positions.Position, most int) bool {
	for range mates(p, most) {
		return true
	}
	return false
}

// count rows of so many moves behind which it is over in the way that is asked for.
func count(begin positions.Position, plies int, over func(positions.Position) bool) int {
	n := 0
	var rows func(p positions.Position, left int)
	rows = func(p positions.Position, left int) {
		if left == 0 {
			if over(p) {
				n++
			}
			return
		}
		for m := range p.Moves() {
			rows(p.After(m), left-1)
		}
	}
	rows(begin, plies)
	return n
}

// best that the mover can reach, so many moves behind the beginning, with so many more ahead; and its first move to it.
func best(p positions.Position, made, left int) (int, api.Move) {
	switch {
	case p.Mated():
		return made - mateWorth, api.Move{}
	case p.Stuck():
		return 0, api.Move{}
	case left == 0:
		return pieces.Of(p.Turn, pieces.Lead(p.Places[:])), api.Move{}
	}
	value, first := worst, api.Move{}
	for m := range p.Moves() {
		others, _ := best(p.After(m), made+1, left-1)
		if -others > value {
			value, first = -others, m
		}
	}
	return value, first
}
