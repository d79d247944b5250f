package slide

import (
	"slices"

	"gameroom/api"
	"gameroom/grids"
)

// gapNumber stands where no stone is.
const gapNumber = 0

// sources: where the stone stands, seen from the gap, that moves up, right, down or left (right and down).
var sources = [4][2]int{{0, 1}, {-1, 0}, {0, -1}, {1, 0}}

// tray: a board of its own, and where the gap is.
type tray struct {
	api.Grid
	gap int
}

func trayOf(g api.Grid) tray {
	g.Cells = slices.Clone(g.Cells)
	return tray{g, slices.Index(g.Cells, gapNumber)}
}

func trayAtHome(w, h int) tray {
	cells := make([]int, w*h)
	for i := range cells[1:] {
		cells[i] = i + 1
	}
	return trayOf(api.Grid{W: w, H: h, Cells: cells})
}

// opposite: the direction of the move that undoes another.
func opposite(direction int) int { return (direction + len(sources)/2) % len(sources) }

// move a stone into the gap, if there is one that can move so.
func (t *tray) move(direction int) bool {
	if direction < 0 || direction >= len(sources) {
		return false
	}
	from, ok := grids.Step(t.Grid, t.gap, sources[direction])
	if !ok {
		return false
	}
	t.Cells[t.gap], t.Cells[from] = t.Cells[from], gapNumber
	t.gap = from
	return true
}

// home of what is at a place: the number's place on the home board.
func (t tray) home(place int) int { return (t.Cells[place] + len(t.Cells) - 1) % len(t.Cells) }

// distance of what is at a place from its home: columns and rows.
func (t tray) distance(place int) int {
	home := t.home(place)
	columns, rows := place%t.W-home%t.W, place/t.W-home/t.W
	return max(columns, -columns) + max(rows, -rows)
}

// disorder: how many pairs stand the other way round than at home?
func (t tray) disorder() int {
	n := 0
	for place := range t.Cells {
		for earlier := range place {
			if t.home(earlier) > t.home(place) {
				n++
			}
		}
	}
	return n
}
