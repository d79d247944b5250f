package endings_test

import (
	"strings"

	"gameroom/api"
)

// at: the place of a name on a board of n by n.
func at(n int, name string) int { return int(name[0]-'a') + n*int(name[1]-'1') }

// of a side to move, and where the white king, the piece and the black king stand: Kc1 Qb3 ka1. The piece is told, too.
func of(n, turn int, words string) (int, api.End) {
	l := strings.Fields(words)
	piece := strings.Index("    RQ", l[1][:1])
	return piece, api.End{King: at(n, l[0][1:]), Piece: at(n, l[1][1:]), Other: at(n, l[2][1:]), Turn: turn}
}

// kinds of pieces that may stand there.
func kinds() []int { return []int{api.Rook, api.Queen} }

// images of a state: turned and mirrored.
func images(n int, s api.End) []api.End {
	var l []api.End
	for how := range 8 {
		image := func(place int) int {
			file, rank := place%n, place/n
			if how&1 != 0 {
				file = n - 1 - file
			}
			if how&2 != 0 {
				rank = n - 1 - rank
			}
			if how&4 != 0 {
				file, rank = rank, file
			}
			return file + n*rank
		}
		l = append(l, api.End{King: image(s.King), Piece: image(s.Piece), Other: image(s.Other), Turn: s.Turn})
	}
	return l
}

// plain: a board, its states that may be, in order, and of each what it can come to and its depth.
type plain struct {
	n, piece int
	all      []api.End
	next     map[api.End][]api.End
	depth    map[api.End]int
}

func plainOf(n, piece int) plain {
	p := plain{n: n, piece: piece, next: map[api.End][]api.End{}, depth: map[api.End]int{}}
	for king := range n * n {
		for at := range n * n {
			for other := range n * n {
				for turn := range 2 {
					if s := (api.End{King: king, Piece: at, Other: other, Turn: turn}); p.may(s) {
						p.all = append(p.all, s)
						p.next[s] = p.moves(s)
						p.depth[s] = -1
					}
				}
			}
		}
	}
	p.solve()
	return p
}

// steps between two places: files and ranks.
func (p plain) steps(from, to int) (int, int) { return to%p.n - from%p.n, to/p.n - from/p.n }

func (p plain) neighbours(x, y int) bool {
	files, ranks := p.steps(x, y)
	return x != y && files*files <= 1 && ranks*ranks <= 1
}

// hits: does the piece attack a place, if no other than these stand in the way?
func (p plain) hits(from, to int, others ...int) bool {
	files, ranks := p.steps(from, to)
	straight, slanting := files == 0 || ranks == 0, files == ranks || files == -ranks
	if from == to || !straight && (p.piece == api.Rook || !slanting) {
		return false
	}
	for _, other := range others {
		right, up := p.steps(from, other)
		if right*ranks == up*files && right*files+up*ranks > 0 && right*right+up*up < files*files+ranks*ranks {
			return false
		}
	}
	return true
}

func (p plain) check(s api.End) bool { return p.hits(s.Piece, s.Other, s.King) }

func (p plain) may(s api.End) bool {
	for _, place := range []int{s.King, s.Piece, s.Other} {
		if place < 0 || place >= p.n*p.n {
			return false
		}
	}
	unlike := s.King != s.Piece && s.King != s.Other && s.Piece != s.Other
	return unlike && !p.neighbours(s.King, s.Other) && (s.Turn == 1 || s.Turn == 0 && !p.check(s))
}

// moves: the states that a state can come to.
func (p plain) moves(s api.End) []api.End {
	var l []api.End
	for to := range p.n * p.n {
		t := s
		t.Turn = 1 - s.Turn
		if s.Turn == 1 {
			if t.Other = to; p.neighbours(s.Other, to) && p.may(t) {
				l = append(l, t)
			}
			continue
		}
		if t.King = to; p.neighbours(s.King, to) && p.may(t) {
			l = append(l, t)
		}
		t.King = s.King
		if t.Piece = to; p.hits(s.Piece, to, s.King, s.Other) && p.may(t) {
			l = append(l, t)
		}
	}
	return l
}

func (p plain) takes(s api.End) bool {
	return s.Turn == 1 && p.neighbours(s.Other, s.Piece) && !p.neighbours(s.King, s.Piece)
}

func (p plain) mated(s api.End) bool {
	return s.Turn == 1 && p.check(s) && !p.takes(s) && len(p.next[s]) == 0
}

// solve: depth by depth, all states without one are looked at anew.
func (p plain) solve() {
	for depth, found := 0, true; found; depth++ {
		found = false
		for _, s := range p.all {
			if p.depth[s] < 0 && p.comesTo(s, depth) {
				p.depth[s], found = depth, true
			}
		}
	}
}

// comesTo mate in so many moves: white has a way that does, or black has no other any more.
func (p plain) comesTo(s api.End, depth int) bool {
	if depth == 0 {
		return p.mated(s)
	}
	longest := -1
	for _, t := range p.next[s] {
		d := p.depth[t]
		if s.Turn == 0 && d == depth-1 {
			return true
		}
		if s.Turn == 1 && d < 0 {
			return false
		}
		longest = max(longest, d)
	}
	return s.Turn == 1 && !p.takes(s) && longest == depth-1
}

// longest: the greatest depth, and the states that have it.
func (p plain) longest() (int, []api.End) {
	longest := 0
	for _, depth := range p.depth {
		longest = max(longest, depth)
	}
	var l []api.End
	for _, s := range p.all {
		if p.depth[s] == longest {
			l = append(l, s)
		}
	}
	return longest, l
}

func (p plain) count() [3]int {
	var c [3]int
	for _, s := range p.all {
		if p.depth[s] < 0 {
			c[2]++
		} else {
			c[s.Turn]++
		}
	}
	return c
}
