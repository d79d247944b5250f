package stones

import (
	"gameroom/api"
	"gameroom/grids"
)

const (
	pass      = -1
	endPasses = 2
)

// picture of a board, as a key: boards of one play are all of one size.
type picture [grids.MostPlaces]int

// play on a board of its own.
type play struct {
	board
	taken  [2]int
	made   int                  // moves, passes too
	passes int                  // since the last stone
	were   map[picture]struct{} // boards that were there
}

func playFrom(g api.Grid) *play {
	b := board{g}.clone()
	return &play{board: b, were: map[picture]struct{}{b.picture(): {}}}
}

func (b board) picture() picture {
	var p picture
	copy(p[:], b.Cells)
	return p
}

// move of the player whose turn it is; one that is refused changes nothing.
func (p *play) move(at int) api.Errno {
	if p.passes == endPasses {
		return api.ErrOver
	}
	if at == pass {
		p.passes++
		p.made++
		return api.OK
	}
	return p.stone(at)
}

func (p *play) stone(at int) api.Errno {
	turn := p.made % 2
	after, taken, e := p.put(grids.First+turn, at)
	if e != api.OK {
		return e
	}
	seen := after.picture()
	if _, was := p.were[seen]; was {
		return api.ErrRule
	}
	p.were[seen] = struct{}{}
	p.board = after
	p.taken[turn] += taken
	p.passes = 0
	p.made++
	return api.OK
}
