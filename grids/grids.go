// Package grids: what several games and puzzles on boards ask of them. Boards that are handed in may be (rows.May); where no sign is asked for, they may have other numbers.
package grids

import (
	"iter"
	"slices"

	"gameroom/api"
)

// MostPlaces that a board has.
const MostPlaces = api.MaxWide * api.MaxWide

// As bits, the two players make 3: what is told of both.
const (
	Nobody = iota
	First
	Second
)

// directions that rows have; their opposites would only find the same rows again.
var directions = [4][2]int{{1, 0}, {0, 1}, {1, 1}, {-1, 1}}

// Signs at the places of a board that were empty when its game was first looked at: all that changes in it. They tell the mover, too.
type Signs [api.MaxOpen]int

// IsLength: may a board be so wide or high, or a row so long?
func IsLength(n int) bool { return n >= 1 && n <= api.MaxWide }

// IsPlayer: is it one of the two players?
func IsPlayer(who int) bool { return who == First || who == Second }

// Other of the two players.
func Other(player int) int { return First + Second - player }

// Mover of a board: nobody, where the players cannot have put their signs by turns.
func Mover(g api.Grid) int {
	var times [3]int
	for _, sign := range g.Cells {
		times[sign]++
	}
	switch times[First] - times[Second] {
	case 0:
		return First
	case 1:
		return Second
	}
	return Nobody
}

// Empty places of a board, rising.
func Empty(g api.Grid) []int {
	var l []int
	for place, sign := range g.Cells {
		if sign == Nobody {
			l = append(l, place)
		}
	}
	return l
}

// SignsAt so many places of a board as are played out at the most.
func SignsAt(g api.Grid, places []int) Signs {
	var l Signs
	for i, place := range places {
		l[i] = g.Cells[place]
	}
	return l
}

// IsPlace of a board?
func IsPlace(g api.Grid, at int) bool { return at >= 0 && at < len(g.Cells) }

// Step from a place in a direction (right and down): to which place, if the board has one there?
func Step(g api.Grid, place int, direction [2]int) (int, bool) {
	x, y := place%g.W+direction[0], place/g.W+direction[1]
	if x < 0 || x >= g.W || y < 0 || y >= g.H {
		return 0, false
	}
	return y*g.W + x, true
}

// Beside yields the places beside a place, in such directions.
func Beside(g api.Grid, place int, directions ...[2]int) iter.Seq[int] {
	return func(yield func(int) bool) {
		for _, d := range directions {
			if next, ok := Step(g, place, d); ok && !yield(next) {
				return
			}
		}
	}
}

// Spread from a place over those beside it, as far as may be: the places that are reached, the first one too, rising.
func Spread(g api.Grid, from int, may func(place int) bool, directions ...[2]int) []int {
	reached := []int{from}
	var met [MostPlaces]bool
	met[from] = true
	for i := 0; i < len(reached); i++ {
		for next := range Beside(g, reached[i], directions...) {
			if !met[next] && may(next) {
				met[next] = true
				reached = append(reached, next)
			}
		}
	}
	slices.Sort(reached)
	return reached
}

// Regions of a board: places that may be spread over, those that come to one another together, by their least places.
func Regions(g api.Grid, may func(place int) bool, directions ...[2]int) iter.Seq[[]int] {
	return func(yield func([]int) bool) {
		var told [MostPlaces]bool
		for place := range g.Cells {
			if told[place] || !may(place) {
				continue
			}
			region := Spread(g, place, may, directions...)
			for _, member := range region {
				told[member] = true
			}
			if !yield(region) {
				return
			}
		}
	}
}

// InRow: does the sign of a place stand in a row of k?
func InRow(g api.Grid, place, k int) bool {
	for _, d := range directions {
		if 1+alikeAlong(g, place, d)+alikeAlong(g, place, [2]int{-d[0], -d[1]}) >= k {
			return true
		}
	}
	return false
}

// alikeAlong counts the signs beside a place that are like its own, up to the first one that is not.
func alikeAlong(g api.Grid, place int, direction [2]int) int {
	n := 0
	for other := range along(g, place, direction) {
		if g.Cells[other] != g.Cells[place] {
			break
		}
		n++
	}
	return n
}

// along yields the places behind a place, step by step to the border.
func along(g api.Grid, place int, direction [2]int) iter.Seq[int] {
	return func(yield func(int) bool) {
		next, ok := Step(g, place, direction)
		for ok && yield(next) {
			next, ok = Step(g, next, direction)
		}
	}
}
