package problems_test

import (
	"cmp"
	"slices"
	"strings"
	"testing"

	"gameroom/api"
	"gameroom/chess"
	"gameroom/moves"
)

// at: the place of a name.
func at(name string) int { return int(name[0]-'a') + 8*int(name[1]-'1') }

// move by a word: e2e4, e7e8n.
func move(word string) api.Move {
	m := api.Move{From: at(word[:2]), To: at(word[2:4])}
	if len(word) > 4 {
		m.Into = strings.Index(" pnbrqk", word[4:])
	}
	return m
}

// row of moves, by words.
func row(words string) []api.Move {
	var l []api.Move
	for word := range strings.FieldsSeq(words) {
		l = append(l, move(word))
	}
	return l
}

// of a side to move, and pieces with their places: Ke1 for white's king, ke8 for black's.
func of(turn int, pieces string) api.Chess {
	p := api.Chess{Places: make([]int, 64), Turn: turn, EnPassant: -1, Full: 1}
	for word := range strings.FieldsSeq(pieces) {
		p.Places[at(word[1:])] = strings.Index("kqrbnp PNBRQK", word[:1]) - 6
	}
	return p
}

func withPassed(p api.Chess, place string) api.Chess {
	p.EnPassant = at(place)
	return p
}

func withHalf(p api.Chess, half int) api.Chess {
	p.Half = half
	return p
}

func withCastle(p api.Chess, castle int) api.Chess {
	p.Castle = castle
	return p
}

func positionOf(t *testing.T, fen string) api.Chess {
	t.Helper()
	p, e := chess.Read(fen)
	if e != api.OK {
		t.Fatalf("%q: %d", fen, e)
	}
	return p
}

// mirrored: ranks turned round, colours changed.
func mirrored(p api.Chess) api.Chess {
	l := make([]int, 64)
	for place, piece := range p.Places {
		l[mirroredPlace(place)] = -piece
	}
	p.Places, p.Turn, p.Castle = l, 1-p.Turn, p.Castle/4+p.Castle%4*4
	if p.EnPassant >= 0 {
		p.EnPassant = mirroredPlace(p.EnPassant)
	}
	return p
}

func mirroredPlace(place int) int { return place%8 + 8*(7-place/8) }

func mirroredPlaces(l []int) []int {
	var turned []int
	for _, place := range l {
		turned = append(turned, mirroredPlace(place))
	}
	slices.Sort(turned)
	return turned
}

// mirroredMoves, in order again.
func mirroredMoves(l []api.Move) []api.Move {
	var turned []api.Move
	for _, m := range l {
		turned = append(turned, api.Move{From: mirroredPlace(m.From), To: mirroredPlace(m.To), Into: m.Into})
	}
	slices.SortFunc(turned, func(a, b api.Move) int {
		return cmp.Or(a.From-b.From, a.To-b.To, a.Into-b.Into)
	})
	return turned
}

// known positions of games.
var known = []string{
	"rnbqkbnr/pppppppp/8/8/8/8/PPPPPPPP/RNBQKBNR w KQkq - 0 1",
	"r3k2r/p1ppqpb1/bn2pnp1/3PN3/1p2P3/2N2Q1p/PPPBBPPP/R3K2R w KQkq - 0 1",
	"8/2p5/3p4/KP5r/1R3p1k/8/4P1P1/8 w - - 0 1",
	"r3k2r/Pppp1ppp/1b3nbN/nP6/BBP1P3/q4N2/Pp1P2PP/R2Q1RK1 w kq - 0 1",
	"r2q1rk1/pP1p2pp/Q4n2/bbp1p3/Np6/1B3NBn/pPPP1PPP/R3K2R b KQ - 0 1",
	"n1n5/PPPk4/8/8/8/8/4Kppp/5N1N b - - 0 1",
	"r3k2r/8/8/8/8/8/8/R3K2R w KQkq - 3 9",
	"4k3/8/8/3pP3/8/8/8/4K3 w - d6 0 2",
	"4k3/P6P/8/8/8/8/p6p/4K3 b - - 0 1",
	"k7/8/1K6/8/8/8/8/7R w - - 98 5",
}

// die gives numbers that look drawn, the same each time.
type die uint64

func (d *die) below(n int) int {
	*d = *d*6364136223846793005 + 1442695040888963407
	return int(uint64(*d>>33) % uint64(n))
}

// any: a position of a game, or one with few pieces and a king at the edge, mirrored or not.
func (d *die) any() api.Chess {
	kinds := []func() api.Chess{d.played, d.cornered, d.hunted, d.shut}
	p := kinds[d.below(len(kinds))]()
	if d.below(2) == 0 {
		return mirrored(p)
	}
	return p
}

// played: behind some moves.
func (d *die) played() api.Chess {
	p, _ := chess.Read(known[d.below(len(known))])
	for range d.below(12) {
		may, _ := moves.All(p)
		if len(may) == 0 {
			break
		}
		p, _ = moves.Do(p, may[d.below(len(may))])
	}
	return p
}

// cornered: one king is at the edge, so that it is often mated or cannot move.
func (d *die) cornered() api.Chess {
	for {
		p := api.Chess{Places: make([]int, 64), Turn: d.below(2), EnPassant: -1, Half: d.below(200), Full: 1 + d.below(999)}
		for range 1 + d.below(4) {
			p.Places[d.below(64)] = []int{2, 3, 4, 5, 5, -2, -4}[d.below(7)]
		}
		for range d.below(3) {
			p.Places[48+d.below(8)] = 1
		}
		p.Places[[]int{0, 7, 56, 63, 3, 39}[d.below(6)]] = -6
		p.Places[d.below(64)] = 6
		if chess.May(p) {
			return p
		}
	}
}

// hunted: a king alone near a corner, and what is often enough to mate it soon.
func (d *die) hunted() api.Chess {
	for {
		p := api.Chess{Places: make([]int, 64), EnPassant: -1, Half: d.below(200), Full: 1}
		near := func() int { return d.below(4) + 8*d.below(4) }
		p.Places[d.below(64)] = 3 + d.below(3)
		p.Places[d.below(64)] = []int{0, 2, 4}[d.below(3)]
		p.Places[near()] = 6
		p.Places[[]int{0, 1, 8, 2}[d.below(4)]] = -6
		if chess.May(p) {
			return p
		}
	}
}

// shut: a king in a corner that can hardly move.
func (d *die) shut() api.Chess {
	for {
		p := api.Chess{Places: make([]int, 64), Turn: d.below(2), EnPassant: -1, Half: d.below(200), Full: 1}
		p.Places[d.below(64)] = []int{0, -1, -2, -3}[d.below(4)]
		p.Places[at("h8")], p.Places[at("h7")], p.Places[at("h6")] = -6, -d.below(2), 1
		p.Places[[]int{at("f7"), at("f8"), at("g6")}[d.below(3)]] = []int{0, 2, 3, 6}[d.below(4)]
		if !slices.Contains(p.Places, 6) {
			p.Places[d.below(64)] = 6
		}
		if chess.May(p) {
			return p
		}
	}
}

// The plain ways, by the faces of the layers below alone.

// plainMate: in how many moves, at the least, and the first moves to it.
func plainMate(p api.Chess, most int) (int, []api.Move) {
	least := 0
	var l []api.Move
	may, _ := moves.All(p)
	for _, m := range may {
		next, _ := moves.Do(p, m)
		n := plainUntil(next, most)
		if n == 0 || least != 0 && n > least {
			continue
		}
		if n != least {
			least, l = n, nil
		}
		l = append(l, m)
	}
	return least, l
}

// plainUntil: how many moves, the one just made counted, the other side needs at the most to mate the side to move; 0: it cannot in most.
func plainUntil(p api.Chess, most int) int {
	if result, _ := moves.Result(p); result == 1 {
		return 1
	}
	longest := 0
	may, _ := moves.All(p)
	for _, m := range may {
		if most == 1 {
			return 0
		}
		next, _ := moves.Do(p, m)
		n, _ := plainMate(next, most-1)
		if n == 0 {
			return 0
		}
		longest = max(longest, n+1)
	}
	return longest
}

// plainRows: of all positions behind so many moves, how many are mated, how many stuck.
func plainRows(p api.Chess, plies int) (mated, stuck int) {
	all := []api.Chess{p}
	for range plies {
		var next []api.Chess
		for _, x := range all {
			may, _ := moves.All(x)
			for _, m := range may {
				y, _ := moves.Do(x, m)
				next = append(next, y)
			}
		}
		all = next
	}
	for _, x := range all {
		switch result, _ := moves.Result(x); result {
		case 1:
			mated++
		case 2:
			stuck++
		}
	}
	return mated, stuck
}

// plainBest: what white has of it, which white makes as much, and black as little, as it can; turned to the side to move.
func plainBest(p api.Chess, deep int) (int, api.Move) {
	value, first := plainLook(p, 0, deep)
	if p.Turn == 1 {
		value = -value
	}
	return value, first
}

func plainLook(p api.Chess, made, deep int) (int, api.Move) {
	sign := 1 - 2*p.Turn
	result, _ := moves.Result(p)
	if result == 1 {
		return -sign * (1000 - made), api.Move{}
	}
	if result == 2 {
		return 0, api.Move{}
	}
	if made == deep {
		value, _, _ := chess.Material(p)
		return value, api.Move{}
	}
	var values []int
	may, _ := moves.All(p)
	for _, m := range may {
		next, _ := moves.Do(p, m)
		value, _ := plainLook(next, made+1, deep)
		values = append(values, value)
	}
	value := slices.Max(values)
	if p.Turn == 1 {
		value = slices.Min(values)
	}
	return value, may[slices.Index(values, value)]
}

// plainCovered: place by place.
func plainCovered(p api.Chess, by int) []int {
	var l []int
	for place := range 64 {
		if from, _ := chess.Attackers(p, place, by); len(from) > 0 {
			l = append(l, place)
		}
	}
	return l
}
