package hex

import (
	"iter"

	"gameroom/grids"
)

// solver of a game on a board of its own, at which nobody has joined its sides yet.
type solver struct {
	board
	open  []int               // the places that were empty at first
	known map[grids.Signs]int // who wins on boards that were met: many rows of moves lead to the same one
}

// wins yields the places with which the mover will join its sides.
func (s *solver) wins(mover int) iter.Seq[int] {
	return func(yield func(int) bool) {
		for _, place := range s.open {
			if s.Cells[place] == grids.Nobody && s.winsAt(place, mover) && !yield(place) {
				return
			}
		}
	}
}

// winsAt a place: will the mover join its sides with a sign there? The sign is taken back.
func (s *solver) winsAt(place, mover int) bool {
	s.Cells[place] = mover
	won := s.joins(s.group(place), mover) || s.winner(grids.Other(mover)) == mover
	s.Cells[place] = grids.Nobody
	return won
}

// winner of the board. It is never asked for one that is full: there somebody has joined.
func (s *solver) winner(mover int) int {
	laid := grids.SignsAt(s.Grid, s.open)
	if who, ok := s.known[laid]; ok {
		return who
	}
	who := grids.Other(mover)
	for range s.wins(mover) {
		who = mover
		break
	}
	s.known[laid] = who
	return who
}
