package moves

import (
	"gameroom/api"
	"gameroom/pieces"
	"gameroom/positions"
)

// picture of a position, as a key: its places, then what else tells whether two positions are one.
type picture [pieces.Places + 3]int

// play from a position on.
type play struct {
	positions.Position
	made int
	were map[picture]int // how often each position was there
}

func begun(s positions.Position) *play {
	return &play{Position: s, were: map[picture]int{pictureOf(s): 1}}
}

// move that may be made.
func (p *play) move(m api.Move) {
	p.Position = p.After(m)
	p.made++
	p.were[pictureOf(p.Position)]++
}

// times: how often the position that it has come to was there.
func (p *play) times() int { return p.were[pictureOf(p.Position)] }

func pictureOf(s positions.Position) picture {
	var p picture
	rest := p[copy(p[:], s.Places[:]):]
	rest[0], rest[1], rest[2] = s.Turn, s.Castle, passing(s)
	return p
}

// passing: EnPassant, if a pawn may be taken there. Which pawns may take it is told by the places.
func passing(s positions.Position) int {
	for m := range s.Moves() {
		if s.TakesPassed(m) {
			return s.Passed
		}
	}
	return pieces.Nowhere
}
