package hex

import (
	"iter"
	"slices"

	"gameroom/api"
	"gameroom/grids"
)

const tooMany = grids.MostPlaces + 1 // signs: no way needs so many

// board with as many rows as columns.
type board struct{ api.Grid }

// around: directions of the six neighbours, right and down.
func around() [][2]int { return [][2]int{{0, -1}, {1, -1}, {-1, 0}, {1, 0}, {-1, 1}, {0, 1}} }

func (b board) neighbours(place int) iter.Seq[int] {
	return grids.Beside(b.Grid, place, around()...)
}

// line of a place, counted from the player's first side: row or column.
func (b board) line(place, who int) int {
	if who == grids.First {
		return place / b.W
	}
	return place % b.W
}

func (b board) atFirstSide(place, who int) bool { return b.line(place, who) == 0 }

func (b board) atLastSide(place, who int) bool { return b.line(place, who) == b.W-1 }

// groups yields a player's groups, by their least places.
func (b board) groups(who int) iter.Seq[[]int] {
	return grids.Regions(b.Grid, b.has(who), around()...)
}

// group of the sign at a place, rising.
func (b board) group(place int) []int {
	return grids.Spread(b.Grid, place, b.has(b.Cells[place]), around()...)
}

// has: at which places does a sign stand?
func (b board) has(sign int) func(place int) bool {
	return func(place int) bool { return b.Cells[place] == sign }
}

// joins: does a group of a player come from side to side?
func (b board) joins(group []int, who int) bool {
	return slices.ContainsFunc(group, func(place int) bool { return b.atFirstSide(place, who) }) &&
		slices.ContainsFunc(group, func(place int) bool { return b.atLastSide(place, who) })
}

// joined: who has joined its sides, and the places of all groups that do.
func (b board) joined() (int, []int) {
	for who := grids.First; who <= grids.Second; who++ {
		var places []int
		for group := range b.groups(who) {
			if b.joins(group, who) {
				places = append(places, group...)
			}
		}
		if len(places) > 0 {
			slices.Sort(places)
			return who, places
		}
	}
	return grids.Nobody, nil
}

// shortest way of a player from side to side, counted by the places of it that are still empty.
func (b board) shortest(who int) int {
	least := tooMany
	for place, needed := range b.needed(who) {
		if b.atLastSide(place, who) {
			least = min(least, needed)
		}
	}
	if least == tooMany {
		return noWay
	}
	return least
}

// needed: of each place how many more signs a player needs to come from its first side to there, one at the place itself counted, too.
func (b board) needed(who int) []int {
	needed := slices.Repeat([]int{tooMany}, len(b.Cells))
	var reached []int
	reach := func(place, signs int) {
		switch b.Cells[place] {
		case grids.Other(who):
			return
		case grids.Nobody:
			signs++
		}
		// A place that takes fewer signs than when it was reached before brings the places behind it nearer, too.
		if signs < needed[place] {
			needed[place] = signs
			reached = append(reached, place)
		}
	}
	for place := range b.Cells {
		if b.atFirstSide(place, who) {
			reach(place, 0)
		}
	}
	for i := 0; i < len(reached); i++ {
		for next := range b.neighbours(reached[i]) {
			reach(next, needed[reached[i]])
		}
	}
	return needed
}
