package stones

import (
	"iter"
	"slices"

	"gameroom/api"
	"gameroom/grids"
)

// board of stones.
type board struct{ api.Grid }

func (b board) clone() board {
	b.Cells = slices.Clone(b.Cells)
	return b
}

// around: directions of the four neighbours, right and down.
func around() [][2]int { return [][2]int{{0, -1}, {-1, 0}, {1, 0}, {0, 1}} }

func (b board) neighbours(place int) iter.Seq[int] {
	return grids.Beside(b.Grid, place, around()...)
}

// has: at which places does a sign stand?
func (b board) has(sign int) func(place int) bool {
	return func(place int) bool { return b.Cells[place] == sign }
}

// hasNot: at which places does it not?
func (b board) hasNot(sign int) func(place int) bool {
	return func(place int) bool { return b.Cells[place] != sign }
}

// regions of places that may be spread over.
func (b board) regions(may func(place int) bool) iter.Seq[[]int] {
	return grids.Regions(b.Grid, may, around()...)
}

// group of the stone at a place.
func (b board) group(at int) []int {
	return grids.Spread(b.Grid, at, b.has(b.Cells[at]), around()...)
}

// liberties of a group, rising.
func (b board) liberties(group []int) []int {
	var free []int
	for place := range b.beside(group) {
		if b.Cells[place] == grids.Nobody {
			free = append(free, place)
		}
	}
	slices.Sort(free)
	return slices.Compact(free)
}

// beside yields the neighbours of places, a neighbour of several more than once.
func (b board) beside(places []int) iter.Seq[int] {
	return func(yield func(int) bool) {
		for _, place := range places {
			for next := range b.neighbours(place) {
				if !yield(next) {
					return
				}
			}
		}
	}
}

// borders: do places have a neighbour of that kind?
func (b board) borders(places []int, kind func(place int) bool) bool {
	for place := range b.beside(places) {
		if kind(place) {
			return true
		}
	}
	return false
}

// put a stone at a place: the board behind it, and how many stones were taken.
func (b board) put(who, at int) (board, int, api.Errno) {
	if !grids.IsPlace(b.Grid, at) {
		return board{}, 0, api.ErrRange
	}
	if b.Cells[at] != grids.Nobody {
		return board{}, 0, api.ErrTwice
	}
	after := b.clone()
	after.Cells[at] = who
	taken := after.take(grids.Other(who))
	if len(after.liberties(after.group(at))) == 0 {
		return board{}, 0, api.ErrRule
	}
	return after, taken, api.OK
}

// take away the groups of a player that have no liberties. Groups of one colour do not touch: none lives by another that is taken.
func (b board) take(who int) int {
	taken := 0
	for group := range b.regions(b.has(who)) {
		if len(b.liberties(group)) > 0 {
			continue
		}
		for _, place := range group {
			b.Cells[place] = grids.Nobody
		}
		taken += len(group)
	}
	return taken
}

// areas: how many places are nobody's, and each player's.
func (b board) areas() [3]int {
	var n [3]int
	for _, sign := range b.Cells {
		if sign != grids.Nobody {
			n[sign]++
		}
	}
	for region := range b.regions(b.has(grids.Nobody)) {
		n[b.owner(region)] += len(region)
	}
	return n
}

// owner of an empty region.
func (b board) owner(region []int) int {
	black := b.borders(region, b.has(grids.First))
	white := b.borders(region, b.has(grids.Second))
	switch {
	case black && !white:
		return grids.First
	case white && !black:
		return grids.Second
	}
	return grids.Nobody
}
