package notation_test

import (
	"strings"
	"testing"

	"gameroom/api"
	"gameroom/chess"
	"gameroom/moves"
)

// at: the place of a name.
func at(name string) int { return int(name[0]-'a') + 8*int(name[1]-'1') }

// nameOf a place.
func nameOf(place int) string { return string(rune('a'+place%8)) + string(rune('1'+place/8)) }

// move by its places and what a pawn becomes: e2e4, e7e8n.
func move(word string) api.Move {
	m := api.Move{From: at(word[:2]), To: at(word[2:4])}
	if len(word) > 4 {
		m.Into = strings.Index(" pnbrqk", word[4:])
	}
	return m
}

// row of moves.
func row(words string) []api.Move {
	var l []api.Move
	for word := range strings.FieldsSeq(words) {
		l = append(l, move(word))
	}
	return l
}

func positionOf(t *testing.T, fen string) api.Chess {
	t.Helper()
	p, e := chess.Read(fen)
	if e != api.OK {
		t.Fatalf("%q: %d", fen, e)
	}
	return p
}

// mirrored: ranks turned round, colours changed.
func mirrored(p api.Chess) api.Chess {
	l := make([]int, 64)
	for place, piece := range p.Places {
		l[mirroredPlace(place)] = -piece
	}
	p.Places, p.Turn, p.Castle = l, 1-p.Turn, p.Castle/4+p.Castle%4*4
	if p.EnPassant >= 0 {
		p.EnPassant = mirroredPlace(p.EnPassant)
	}
	return p
}

func mirroredPlace(place int) int { return place%8 + 8*(7-place/8) }

func mirroredMove(m api.Move) api.Move {
	return api.Move{From: mirroredPlace(m.From), To: mirroredPlace(m.To), Into: m.Into}
}

// mirroredWord: the ranks in it are turned round.
func mirroredWord(word string) string {
	return strings.Map(func(sign rune) rune {
		if sign >= '1' && sign <= '8' {
			return '1' + '8' - sign
		}
		return sign
	}, word)
}

// known positions of games.
var known = []string{
	"rnbqkbnr/pppppppp/8/8/8/8/PPPPPPPP/RNBQKBNR w KQkq - 0 1",
	"r3k2r/p1ppqpb1/bn2pnp1/3PN3/1p2P3/2N2Q1p/PPPBBPPP/R3K2R w KQkq - 0 1",
	"8/2p5/3p4/KP5r/1R3p1k/8/4P1P1/8 w - - 0 1",
	"r3k2r/Pppp1ppp/1b3nbN/nP6/BBP1P3/q4N2/Pp1P2PP/R2Q1RK1 w kq - 0 1",
	"r2q1rk1/pP1p2pp/Q4n2/bbp1p3/Np6/1B3NBn/pPPP1PPP/R3K2R b KQ - 0 1",
	"n1n5/PPPk4/8/8/8/8/4Kppp/5N1N b - - 0 1",
	"r3k2r/8/8/8/8/8/8/R3K2R b KQkq - 0 998",
	"4k3/1p1p1p1p/8/P1P1P1P1/p1p1p1p1/8/1P1P1P1P/4K3 w - - 7 31",
	"4k3/1p1p1p1p/8/P1P1P1P1/p1p1p1p1/8/1P1P1P1P/4K3 b - - 7 31",
}

// die gives numbers that look drawn, the same each time.
type die uint64

func (d *die) below(n int) int {
	*d = *d*6364136223846793005 + 1442695040888963407
	return int(uint64(*d>>33) % uint64(n))
}

// any: a position of a game, one with many pieces of one kind, or one with a king at the edge.
func (d *die) any() api.Chess {
	switch d.below(3) {
	case 0:
		return d.crowded()
	case 1:
		return d.cornered()
	}
	return d.played()
}

func (d *die) played() api.Chess {
	p, _ := chess.Read(known[d.below(len(known))])
	last, _, _, _ := moves.Play(p, d.row(p, d.below(14)))
	return last
}

// row of so many moves, or fewer, where none can be made any more.
func (d *die) row(p api.Chess, long int) []api.Move {
	var l []api.Move
	for range long {
		may, _ := moves.All(p)
		if len(may) == 0 {
			break
		}
		m := may[d.below(len(may))]
		l = append(l, m)
		p, _ = moves.Do(p, m)
	}
	return l
}

// crowded: the mover has many pieces of one kind, so that many of them may come to one place.
func (d *die) crowded() api.Chess {
	for {
		p := api.Chess{Places: make([]int, 64), Turn: d.below(2), EnPassant: -1, Half: d.below(1000), Full: 1 + d.below(999)}
		side := 1 - 2*p.Turn
		kind := 2 + d.below(4)
		for range 2 + d.below(7) {
			p.Places[d.below(64)] = side * kind
		}
		for range d.below(6) {
			p.Places[d.below(64)] = []int{-1, 1}[d.below(2)] * (2 + d.below(4))
		}
		for range d.below(8) {
			p.Places[8+d.below(48)] = []int{-1, 1}[d.below(2)]
		}
		p.Places[d.below(64)] = 6
		p.Places[d.below(64)] = -6
		if chess.May(p) {
			return p
		}
	}
}

// cornered: the other king is at the edge, so that it is often mated or cannot move.
func (d *die) cornered() api.Chess {
	for {
		p := api.Chess{Places: make([]int, 64), EnPassant: -1, Full: 1 + d.below(999)}
		for range 2 + d.below(3) {
			p.Places[d.below(64)] = []int{2, 3, 4, 5, 5, -2, -4}[d.below(7)]
		}
		for range d.below(3) {
			p.Places[48+d.below(8)] = 1
		}
		p.Places[[]int{0, 7, 56, 63, 3, 39}[d.below(6)]] = -6
		p.Places[d.below(64)] = 6
		if !chess.May(p) {
			continue
		}
		if d.below(2) == 0 {
			return mirrored(p)
		}
		return p
	}
}

// The plain ways: of all words for a move, the first that tells it from the others.

func plainWord(p api.Chess, m api.Move) string {
	next, _ := moves.Do(p, m)
	if result, _ := moves.Result(next); result == 1 {
		return plainBare(p, m) + "#"
	}
	if check, _ := chess.Check(next); check {
		return plainBare(p, m) + "+"
	}
	return plainBare(p, m)
}

// plainBare: without what stands behind all.
func plainBare(p api.Chess, m api.Move) string {
	piece := max(p.Places[m.From], -p.Places[m.From])
	if piece == 6 && m.To%8-m.From%8 == 2 {
		return "O-O"
	}
	if piece == 6 && m.From%8-m.To%8 == 2 {
		return "O-O-O"
	}
	takes, from := "", nameOf(m.From)
	if plainTakes(p, m) {
		takes = "x"
	}
	switch {
	case piece == 1 && takes != "":
		return from[:1] + "x" + nameOf(m.To) + plainInto(m)
	case piece == 1:
		return nameOf(m.To) + plainInto(m)
	}
	for _, hint := range []string{"", from[:1], from[1:]} {
		if plainFits(p, m, hint) == 1 {
			return "PNBRQK"[piece-1:piece] + hint + takes + nameOf(m.To)
		}
	}
	return "PNBRQK"[piece-1:piece] + from + takes + nameOf(m.To)
}

func plainInto(m api.Move) string {
	if m.Into == 0 {
		return ""
	}
	return "=" + "PNBRQK"[m.Into-1:m.Into]
}

// plainTakes: are there fewer pieces behind a move?
func plainTakes(p api.Chess, m api.Move) bool {
	next, _ := moves.Do(p, m)
	return empty(next) > empty(p)
}

// empty: how many places are.
func empty(p api.Chess) int {
	n := 0
	for _, piece := range p.Places {
		if piece == 0 {
			n++
		}
	}
	return n
}

// plainFits: how many pieces of its kind, itself counted, whose places' names have a hint, may make a move to that place.
func plainFits(p api.Chess, m api.Move, hint string) int {
	n := 0
	may, _ := moves.All(p)
	for _, other := range may {
		if other.To == m.To && p.Places[other.From] == p.Places[m.From] && strings.Contains(nameOf(other.From), hint) {
			n++
		}
	}
	return n
}

// spellings: all texts that tell the move with that word.
func spellings(word string) []string {
	l := []string{""}
	for _, sign := range word {
		var longer []string
		for _, s := range l {
			for _, other := range likes(sign) {
				longer = append(longer, s+other)
			}
		}
		l = longer
	}
	if bare := strings.TrimRight(word, "+#"); bare != word {
		l = append(l, spellings(bare)...)
	}
	return l
}

// likes: the signs that may stand for a sign, itself among them.
func likes(sign rune) []string {
	switch sign {
	case 'O':
		return []string{"O", "0"}
	case 'K':
		return []string{"K", "♔", "♚"}
	case 'Q':
		return []string{"Q", "♕", "♛"}
	case 'R':
		return []string{"R", "♖", "♜"}
	case 'B':
		return []string{"B", "♗", "♝"}
	case 'N':
		return []string{"N", "♘", "♞"}
	}
	return []string{string(sign)}
}

// plainParse: all texts that tell moves of a position.
func plainParse(p api.Chess) map[string]api.Move {
	all := map[string]api.Move{}
	may, _ := moves.All(p)
	for _, m := range may {
		for _, s := range spellings(plainWord(p, m)) {
			all[s] = m
		}
	}
	return all
}
