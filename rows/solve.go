package rows

import (
	"slices"

	"gameroom/api"
	"gameroom/grids"
)

// What comes of a game, as its mover sees it.
const (
	loss = -1
	draw = 0
	win  = 1
)

// game on a board of its own, at which nobody has a row yet.
type game struct {
	board api.Grid
	k     int
	open  []int               // the places that were empty at first
	known map[grids.Signs]int // what comes of boards that were met: many rows of moves lead to the same one
}

// Solve a game.
func Solve(g api.Grid, k int) (int, []int, api.Errno) {
	if e := fault(g, k); e != api.OK {
		return 0, nil, e
	}
	mover := grids.Mover(g)
	if mover == grids.Nobody {
		return 0, nil, api.ErrTurn
	}
	open := grids.Empty(g)
	if len(open) > api.MaxOpen {
		return 0, nil, api.ErrSize
	}
	switch winner, _, _ := Won(g, k); winner {
	case grids.Nobody:
		g.Cells = slices.Clone(g.Cells)
		p := game{board: g, k: k, open: open, known: map[grids.Signs]int{}}
		value, places := p.best(mover)
		return value, places, api.OK
	case mover:
		return win, nil, api.OK
	}
	return loss, nil, api.OK
}

// best that the mover can reach, and all places with which it does.
func (p *game) best(mover int) (int, []int) {
	value := draw
	var places []int
	for _, place := range p.open {
		if p.board.Cells[place] != grids.Nobody {
			continue
		}
		v := p.valueOf(place, mover)
		if len(places) == 0 || v > value {
			value, places = v, nil
		}
		if v == value {
			places = append(places, place)
		}
	}
	return value, places
}

// valueOf a place for the mover, who puts a sign there and takes it back.
func (p *game) valueOf(place, mover int) int {
	p.board.Cells[place] = mover
	value := win
	if !grids.InRow(p.board, place, p.k) {
		value = -p.value(grids.Other(mover))
	}
	p.board.Cells[place] = grids.Nobody
	return value
}

// value of the board for the mover.
func (p *game) value(mover int) int {
	laid := grids.SignsAt(p.board, p.open)
	if value, ok := p.known[laid]; ok {
		return value
	}
	value, _ := p.best(mover)
	p.known[laid] = value
	return value
}
