package slide_test

import (
	"fmt"
	"slices"

	"gameroom/api"
)

// A plain slide, written otherwise than the package: rows of columns, and boards that are looked through again and again.

const (
	up    = 0
	right = 1
	down  = 2
	left  = 3
)

// board of so many columns.
func board(w int, cells ...int) api.Grid {
	return api.Grid{W: w, H: len(cells) / w, Cells: cells}
}

func atHome(w, h int) api.Grid {
	g := board(w, make([]int, w*h)...)
	for i := range w*h - 1 {
		g.Cells[i] = i + 1
	}
	return g
}

func text(g api.Grid) string { return fmt.Sprint(g) }

// moved: what a direction makes of a board, if a stone can move so.
func moved(g api.Grid, direction int) (api.Grid, bool) {
	g.Cells = slices.Clone(g.Cells)
	gap := slices.Index(g.Cells, 0)
	stone := -1
	switch {
	case direction == up && gap/g.W < g.H-1:
		stone = gap + g.W
	case direction == down && gap/g.W > 0:
		stone = gap - g.W
	case direction == left && gap%g.W < g.W-1:
		stone = gap + 1
	case direction == right && gap%g.W > 0:
		stone = gap - 1
	default:
		return g, false
	}
	g.Cells[gap], g.Cells[stone] = g.Cells[stone], g.Cells[gap]
	return g, true
}

// orders: all boards of so many places, whatever can be reached.
func orders(w, h int) []api.Grid {
	l := [][]int{{}}
	for number := range w * h {
		var more [][]int
		for _, order := range l {
			for i := range len(order) + 1 {
				more = append(more, slices.Insert(slices.Clone(order), i, number))
			}
		}
		l = more
	}
	var boards []api.Grid
	for _, order := range l {
		boards = append(boards, board(w, order...))
	}
	return boards
}

// ways: of each board that can be brought home, by its text, how many moves that takes.
// All boards are looked through again for each number of moves.
func ways(w, h int) map[string]int {
	far := map[string]int{text(atHome(w, h)): 0}
	all := orders(w, h)
	for found, moves := true, 1; found; moves++ {
		found = false
		for _, g := range all {
			if _, ok := far[text(g)]; ok {
				continue
			}
			for direction := range 4 {
				next, ok := moved(g, direction)
				if k, old := far[text(next)]; ok && old && k == moves-1 {
					far[text(g)], found = moves, true
				}
			}
		}
	}
	return far
}

// reached: all boards, by their places, that moves make of the one at home.
func reached(w, h int) map[[9]int]int {
	places := func(g api.Grid) (l [9]int) {
		copy(l[:], g.Cells)
		return l
	}
	met := map[[9]int]int{places(atHome(w, h)): 1}
	for l := []api.Grid{atHome(w, h)}; len(l) > 0; l = l[1:] {
		for direction := range 4 {
			if next, ok := moved(l[0], direction); ok && met[places(next)] == 0 {
				met[places(next)] = 1
				l = append(l, next)
			}
		}
	}
	return met
}

// brought: how many moves a stone would need if it were alone, all of them added.
func brought(g api.Grid) int {
	sum := 0
	home := atHome(g.W, g.H)
	for y := range g.H {
		for x := range g.W {
			stone := g.Cells[y*g.W+x]
			if stone == 0 {
				continue
			}
			place := slices.Index(home.Cells, stone)
			for there := place % g.W; there != x; sum++ {
				there += sign(x - there)
			}
			for there := place / g.W; there != y; sum++ {
				there += sign(y - there)
			}
		}
	}
	return sum
}

func sign(n int) int {
	switch {
	case n < 0:
		return -1
	case n > 0:
		return 1
	}
	return 0
}

// even: is the board's order even, once its gap is moved into the last place? The cycles tell.
func even(g api.Grid) bool {
	for {
		next, ok := moved(g, left)
		if !ok {
			break
		}
		g = next
	}
	for {
		next, ok := moved(g, up)
		if !ok {
			break
		}
		g = next
	}
	seen := make([]int, len(g.Cells))
	changes := 0
	for first := range g.Cells {
		for place := first; seen[place] == 0; place = (g.Cells[place] + len(seen) - 1) % len(seen) {
			seen[place] = 1
			if place != first {
				changes++
			}
		}
	}
	return changes%2 == 0
}

// mirrored at the line from the first place to the right and down, with the stones' numbers following their homes.
func mirrored(g api.Grid) api.Grid {
	m := api.Grid{W: g.H, H: g.W, Cells: make([]int, len(g.Cells))}
	other := func(place int) int { return place%g.W*g.H + place/g.W }
	for place, stone := range g.Cells {
		if stone != 0 {
			m.Cells[other(place)] = other(stone-1) + 1
		}
	}
	return m
}

// die gives numbers that look drawn, the same each time.
type die uint64

func (d *die) below(n int) int {
	*d = *d*6364136223846793005 + 1442695040888963407
	return int(uint64(*d>>33) % uint64(n))
}

// drawn board of a size, in any order.
func (d *die) drawn(w, h int) api.Grid {
	var cells []int
	for i := range w * h {
		cells = slices.Insert(cells, d.below(i+1), i)
	}
	return board(w, cells...)
}

// size that a board may have.
func (d *die) size() (int, int) { return 2 + d.below(api.MaxSlide-1), 2 + d.below(api.MaxSlide-1) }

// directions, most of which can be moved in.
func (d *die) directions(n int) []int {
	l := make([]int, n)
	for i := range l {
		l[i] = d.below(4)
	}
	return l
}
