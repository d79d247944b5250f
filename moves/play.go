package moves

import (
	"gameroom/api"
	"gameroom/pieces"
)

// picture of a position, as a key: its places, then what else tells whether two positions are one.
type picture [pieces.Places + 3]int

// play from a position on.
type play struct {
	state
	made int
	were map[picture]int // how often each position was there
}

func begun(s state) *play {
	return &play{state: s, were: map[picture]int{s.picture(): 1}}
}

// move that may be made.
func (p *play) move(m api.Move) {
	p.state = p.after(m)
	p.made++
	p.were[p.picture()]++
}

// times: how often the position that it has come to was there.
func (p *play) times() int { return p.were[p.picture()] }

func (s *state) picture() picture {
	var p picture
	rest := p[copy(p[:], s.places[:]):]
	rest[0], rest[1], rest[2] = s.turn, s.castle, s.passing()
	return p
}

// passing: EnPassant, if a pawn may be taken there. Which pawns may take it is told by the places.
func (s *state) passing() int {
	for m := range s.moves() {
		if s.takesPassed(m) {
			return s.passed
		}
	}
	return pieces.Nowhere
}
