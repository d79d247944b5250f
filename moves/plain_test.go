package moves_test

import (
	"cmp"
	"fmt"
	"math"
	"slices"
	"strings"
	"testing"

	"gameroom/api"
	"gameroom/chess"
)

const spare = -77

// roomy gives a list with spare room, so that a call that writes behind its end is found out.
func roomy(l []int) []int {
	r := make([]int, len(l)+8)
	copy(r, l)
	for i := len(l); i < len(r); i++ {
		r[i] = spare
	}
	return r[:len(l)]
}

func untouched(t *testing.T, what string, l, before []int) {
	t.Helper()
	if !slices.Equal(l, before) {
		t.Errorf("%s changed what was handed in: %v, was %v", what, l, before)
	}
	for _, x := range l[len(l):cap(l)] {
		if x != spare {
			t.Errorf("%s wrote into the spare room of what was handed in", what)
			return
		}
	}
}

// scribble overwrites a list and its spare room.
func scribble[E any](l []E, with E) {
	l = l[:cap(l)]
	for i := range l {
		l[i] = with
	}
}

// at: the place of a name.
func at(name string) int { return int(name[0]-'a') + 8*int(name[1]-'1') }

// move by a word: e2e4, e7e8n.
func move(word string) api.Move {
	m := api.Move{From: at(word[:2]), To: at(word[2:4])}
	if len(word) > 4 {
		m.Into = strings.Index(" pnbrqk", word[4:])
	}
	return m
}

// row of moves, by words.
func row(words string) []api.Move {
	var l []api.Move
	for word := range strings.FieldsSeq(words) {
		l = append(l, move(word))
	}
	return l
}

// of a side to move, and pieces with their places: Ke1 for white's king, ke8 for black's.
func of(turn int, pieces string) api.Chess {
	p := api.Chess{Places: make([]int, 64), Turn: turn, EnPassant: -1, Full: 1}
	for word := range strings.FieldsSeq(pieces) {
		p.Places[at(word[1:])] = numberOf(word[:1])
	}
	return p
}

// numberOf a letter: its piece.
func numberOf(letter string) int {
	if n := strings.Index(" PNBRQK", letter); n > 0 {
		return n
	}
	return -strings.Index(" pnbrqk", letter)
}

func clone(p api.Chess) api.Chess {
	p.Places = slices.Clone(p.Places)
	return p
}

// with another number at a place.
func with(p api.Chess, place, piece int) api.Chess {
	p = clone(p)
	p.Places[place] = piece
	return p
}

func withTurn(p api.Chess, turn int) api.Chess {
	p.Turn = turn
	return p
}

func withCastle(p api.Chess, castle int) api.Chess {
	p.Castle = castle
	return p
}

func withPassed(p api.Chess, place string) api.Chess {
	p.EnPassant = at(place)
	return p
}

func withHalf(p api.Chess, half int) api.Chess {
	p.Half = half
	return p
}

func withFull(p api.Chess, full int) api.Chess {
	p.Full = full
	return p
}

func same(a, b api.Chess) bool {
	return slices.Equal(a.Places, b.Places) && a.Turn == b.Turn && a.Castle == b.Castle && a.EnPassant == b.EnPassant && a.Half == b.Half && a.Full == b.Full
}

func isZero(p api.Chess) bool { return same(p, api.Chess{}) }

// mirrored: ranks turned round, colours changed.
func mirrored(p api.Chess) api.Chess {
	m := clone(p)
	for place, piece := range p.Places {
		m.Places[mirroredPlace(place)] = -piece
	}
	m.Turn = 1 - p.Turn
	m.Castle = p.Castle/4 + p.Castle%4*4
	if p.EnPassant >= 0 {
		m.EnPassant = mirroredPlace(p.EnPassant)
	}
	return m
}

func mirroredPlace(place int) int { return place%8 + 8*(7-place/8) }

func mirroredMove(m api.Move) api.Move {
	return api.Move{From: mirroredPlace(m.From), To: mirroredPlace(m.To), Into: m.Into}
}

func mirroredMoves(l []api.Move) []api.Move {
	turned := slices.Clone(l)
	for i, m := range turned {
		turned[i] = mirroredMove(m)
	}
	slices.SortFunc(turned, inOrder)
	return turned
}

func inOrder(a, b api.Move) int {
	return cmp.Or(cmp.Compare(a.From, b.From), cmp.Compare(a.To, b.To), cmp.Compare(a.Into, b.Into))
}

// strange numbers, at or beyond what an int of 32 bits holds, or little below 0.
func strange() []int {
	return []int{math.MinInt, -1<<32 - 1, -1 << 32, -2, 1 << 32, 1<<32 + 1, math.MaxInt}
}

// wrong positions: each may not be for another reason.
func wrong() map[string]api.Chess {
	begin := chess.New()
	all := map[string]api.Chess{
		"nothing":               {},
		"no places":             {EnPassant: -1, Full: 1},
		"a place too few":       {Places: begin.Places[:63], EnPassant: -1, Full: 1},
		"a place too many":      {Places: append(slices.Clone(begin.Places), 0), EnPassant: -1, Full: 1},
		"very many places":      {Places: append(slices.Clone(begin.Places), make([]int, 1<<16)...), EnPassant: -1, Full: 1},
		"a piece too great":     with(begin, at("e4"), 7),
		"a piece too small":     with(begin, at("e4"), -7),
		"no kings":              of(0, "Qa1"),
		"no king of white":      of(0, "kh8 Qa1"),
		"no king of black":      of(1, "Ka1 qh8"),
		"two kings of white":    of(0, "Ka1 Kc1 kh8"),
		"two kings of black":    of(1, "Ka1 kh8 kf8"),
		"a pawn on the first":   of(0, "Ke1 ke8 Pa1"),
		"a pawn on the last":    of(0, "Ke1 ke8 Pa8"),
		"the other is in check": of(0, "Ka1 Rh1 kh8"),
		"white is in check":     of(1, "Ka1 ra8 kh8"),
		"kings beside":          of(0, "Kd4 kd5"),
		"castle -1":             withCastle(begin, -1),
		"castle 16":             withCastle(begin, 16),
		"castle without rook":   withCastle(with(begin, at("h1"), 0), 15),
		"castle without king":   withCastle(of(0, "Kd1 Ra1 Rh1 ke8"), 1),
		"passed by nobody":      withPassed(of(0, "Ka1 kh8"), "d6"),
		"passed by the mover":   withPassed(of(0, "Ka1 kh8 Pd4"), "d3"),
		"passed and full":       withPassed(of(0, "Ka1 kh8 pd5 nd6"), "d6"),
		"passed from full":      withPassed(of(0, "Ka1 kh8 pd5 nd7"), "d6"),
		"passed -2":             {Places: begin.Places, EnPassant: -2, Full: 1},
		"half -1":               withHalf(begin, -1),
		"half 1000":             withHalf(begin, 1000),
		"full 0":                withFull(begin, 0),
		"full 1000":             withFull(begin, 1000),
		"turn -1":               withTurn(begin, -1),
		"turn 2":                withTurn(begin, 2),
	}
	for _, n := range strange() {
		all[fmt.Sprint("half ", n)] = withHalf(begin, n)
		all[fmt.Sprint("full ", n)] = withFull(begin, n)
		all[fmt.Sprint("turn ", n)] = withTurn(begin, n)
		all[fmt.Sprint("castle ", n)] = withCastle(begin, n)
		all[fmt.Sprint("passed ", n)] = api.Chess{Places: begin.Places, EnPassant: n, Full: 1}
		if n != -2 { // a knight
			all[fmt.Sprint("piece ", n)] = with(begin, at("d4"), n)
		}
	}
	return all
}

// die gives numbers that look drawn, the same each time.
type die uint64

func (d *die) below(n int) int {
	*d = *d*6364136223846793005 + 1442695040888963407
	return int(uint64(*d>>33) % uint64(n))
}

// drawn position with few pieces or many; it may be, though no game need lead there.
func (d *die) drawn() api.Chess {
	for {
		if p := d.anything(); chess.May(p) {
			return p
		}
	}
}

// anything like a position: it may be or not.
func (d *die) anything() api.Chess {
	p := api.Chess{Places: make([]int, 64), Turn: d.below(2), EnPassant: -1, Half: []int{d.below(1000), d.below(110), 999}[d.below(3)], Full: []int{1 + d.below(999), 999}[d.below(2)]}
	kinds := [][]int{{1, -1}, {2, 3, -3, -2}, {3, -3}, {1, 2, 3, 4, 5, -1, -2, -3, -4, -5}, {4, -4, 1, -1}, {5, -5}}[d.below(6)]
	for range d.below([]int{3, 12, 40, 120}[d.below(4)]) {
		p.Places[d.below(64)] = kinds[d.below(len(kinds))]
	}
	for place := range 8 {
		p.Places[place], p.Places[56+place] = noPawn(p.Places[place]), noPawn(p.Places[56+place])
	}
	if d.below(2) == 0 {
		d.unmoved(p.Places)
		p.Castle = d.below(16)
	} else {
		p.Places[d.below(64)] = 6
		p.Places[d.below(64)] = -6
	}
	if d.below(3) == 0 {
		p.EnPassant = []int{40, 16}[p.Turn] + d.below(8)
		up := 8 - 16*p.Turn
		p.Places[p.EnPassant], p.Places[p.EnPassant+up], p.Places[p.EnPassant-up] = 0, 0, 2*p.Turn-1
		for _, beside := range []int{p.EnPassant - up - 1, p.EnPassant - up + 1} {
			if d.below(2) == 0 && p.Places[beside] != 6 && p.Places[beside] != -6 {
				p.Places[beside] = 1 - 2*p.Turn
			}
		}
	}
	return p
}

// unmoved: kings and rooks are put on their first places, and some of what is between them is taken away.
func (d *die) unmoved(l []int) {
	for side, first := range []int{0, 56} {
		for file := range 8 {
			switch {
			case file == 4:
				l[first+file] = 6 - 12*side
			case file == 0 || file == 7:
				l[first+file] = 4 - 8*side
			case d.below(4) > 0:
				l[first+file] = 0
			}
		}
	}
}

// noPawn: the piece, or nothing where it is a pawn.
func noPawn(piece int) int {
	if piece == 1 || piece == -1 {
		return 0
	}
	return piece
}

// positions of games and drawn ones.
func (d *die) any() api.Chess {
	if d.below(2) == 0 {
		return d.drawn()
	}
	p, e := chess.Read(known[d.below(len(known))].fen)
	if e != api.OK {
		panic("a known position may not be")
	}
	for range d.below(12) {
		l := plainAll(p)
		if len(l) == 0 {
			break
		}
		p = plainDo(p, l[d.below(len(l))])
	}
	return p
}

// cornered: the mover has little more than a king at the edge, so that it often cannot move.
func (d *die) cornered() api.Chess {
	for {
		p := api.Chess{Places: make([]int, 64), Turn: 1, EnPassant: -1, Half: d.below(200), Full: 1}
		for range 1 + d.below(3) {
			p.Places[d.below(64)] = []int{2, 3, 4, 5, 5, -2, -3}[d.below(7)]
		}
		p.Places[[]int{0, 7, 56, 63, 3, 39}[d.below(6)]] = -6
		p.Places[d.below(64)] = 6
		if chess.May(p) {
			return p
		}
	}
}

// known positions, of which it is known how many rows of one, two, three moves they have.
var known = []struct {
	fen  string
	rows [3]int
}{
	{"rnbqkbnr/pppppppp/8/8/8/8/PPPPPPPP/RNBQKBNR w KQkq - 0 1", [3]int{20, 400, 8902}},
	{"r3k2r/p1ppqpb1/bn2pnp1/3PN3/1p2P3/2N2Q1p/PPPBBPPP/R3K2R w KQkq - 0 1", [3]int{48, 2039, 97862}},
	{"8/2p5/3p4/KP5r/1R3p1k/8/4P1P1/8 w - - 0 1", [3]int{14, 191, 2812}},
	{"r3k2r/Pppp1ppp/1b3nbN/nP6/BBP1P3/q4N2/Pp1P2PP/R2Q1RK1 w kq - 0 1", [3]int{6, 264, 9467}},
	{"r2q1rk1/pP1p2pp/Q4n2/bbp1p3/Np6/1B3NBn/pPPP1PPP/R3K2R b KQ - 0 1", [3]int{6, 264, 9467}},
	{"rnbq1k1r/pp1Pbppp/2p5/8/2B5/8/PPP1NnPP/RNBQK2R w KQ - 1 8", [3]int{44, 1486, 62379}},
	{"r4rk1/1pp1qppp/p1np1n2/2b1p1B1/2B1P1b1/P1NP1N2/1PP1QPPP/R4RK1 w - - 0 10", [3]int{46, 2079, 89890}},
	{"n1n5/PPPk4/8/8/8/8/4Kppp/5N1N b - - 0 1", [3]int{24, 496, 9483}},
	{"r3k2r/8/8/8/8/8/8/R3K2R w KQkq - 0 1", [3]int{26, 568, 13744}},
}

// The plain ways: each move that could be thought of is asked whether it may be made.

func plainAll(p api.Chess) []api.Move {
	var l []api.Move
	for from := range 64 {
		if !ownOn(p, from, p.Turn) {
			continue
		}
		for to := range 64 {
			for into := range 7 {
				if m := (api.Move{From: from, To: to, Into: into}); plainGoes(p, m) && !plainExposes(p, m) {
					l = append(l, m)
				}
			}
		}
	}
	return l
}

func ownOn(p api.Chess, place, side int) bool {
	return side == 0 && p.Places[place] > 0 || side == 1 && p.Places[place] < 0
}

// plainExposes: is the mover's king attacked behind a move?
func plainExposes(p api.Chess, m api.Move) bool {
	x := plainDo(p, m)
	return plainAttacked(x, plainKing(x, p.Turn), 1-p.Turn)
}

func plainKing(p api.Chess, side int) int { return slices.Index(p.Places, 6-12*side) }

func plainAttacked(p api.Chess, place, by int) bool {
	for from := range 64 {
		if ownOn(p, from, by) && plainAttacks(p, from, place) {
			return true
		}
	}
	return false
}

// plainGoes: does a piece move so, whether its king is attacked then or not?
func plainGoes(p api.Chess, m api.Move) bool {
	if ownOn(p, m.To, p.Turn) {
		return false
	}
	switch p.Places[m.From] {
	case 1, -1:
		if last := m.To/8 == 7-7*p.Turn; last != (m.Into != 0) || last && (m.Into < 2 || m.Into > 5) {
			return false
		}
		return plainPawn(p, m)
	case 6, -6:
		return m.Into == 0 && (plainAttacks(p, m.From, m.To) || plainCastles(p, m))
	}
	return m.Into == 0 && plainAttacks(p, m.From, m.To)
}

func plainPawn(p api.Chess, m api.Move) bool {
	up := 8 - 16*p.Turn
	switch m.To - m.From {
	case up:
		return p.Places[m.To] == 0
	case 2 * up:
		return m.From/8 == 1+5*p.Turn && p.Places[m.From+up] == 0 && p.Places[m.To] == 0
	}
	return plainAttacks(p, m.From, m.To) && (p.Places[m.To] != 0 || m.To == p.EnPassant)
}

func plainCastles(p api.Chess, m api.Move) bool {
	for _, c := range []struct {
		turn, right int
		move        string
		empty, safe string
	}{
		{0, 1, "e1g1", "f1 g1", "e1 f1 g1"},
		{0, 2, "e1c1", "b1 c1 d1", "c1 d1 e1"},
		{1, 4, "e8g8", "f8 g8", "e8 f8 g8"},
		{1, 8, "e8c8", "b8 c8 d8", "c8 d8 e8"},
	} {
		if p.Turn != c.turn || p.Castle/c.right%2 == 0 || m != move(c.move) {
			continue
		}
		free := true
		for name := range strings.FieldsSeq(c.empty) {
			free = free && p.Places[at(name)] == 0
		}
		for name := range strings.FieldsSeq(c.safe) {
			free = free && !plainAttacked(p, at(name), 1-p.Turn)
		}
		return free
	}
	return false
}

// plainAttacks: does what stands on a place attack another one?
func plainAttacks(p api.Chess, from, to int) bool {
	right, up := to%8-from%8, to/8-from/8
	wide, high := max(right, -right), max(up, -up)
	straight, slanting := (wide == 0) != (high == 0), wide == high && wide > 0
	switch p.Places[from] {
	case 1:
		return wide == 1 && up == 1
	case -1:
		return wide == 1 && up == -1
	case 2, -2:
		return wide*high == 2
	case 3, -3:
		return slanting && plainFree(p, from, to)
	case 4, -4:
		return straight && plainFree(p, from, to)
	case 5, -5:
		return (straight || slanting) && plainFree(p, from, to)
	}
	return max(wide, high) == 1
}

// plainFree: is nothing between two places of a line?
func plainFree(p api.Chess, from, to int) bool {
	right, up := to%8-from%8, to/8-from/8
	n := max(right, -right, up, -up)
	for i := 1; i < n; i++ {
		if p.Places[from+i*right/n+8*(i*up/n)] != 0 {
			return false
		}
	}
	return true
}

func plainDo(p api.Chess, m api.Move) api.Chess {
	x := clone(p)
	x.Turn, x.EnPassant, x.Half = 1-p.Turn, -1, min(p.Half+1, 999)
	x.Full = min(p.Full+p.Turn, 999)
	up := 8 - 16*p.Turn
	piece := p.Places[m.From]
	x.Places[m.From], x.Places[m.To] = 0, piece
	if piece == 1 || piece == -1 {
		if m.To == p.EnPassant {
			x.Places[m.To-up] = 0
		}
		if m.To-m.From == 2*up {
			x.EnPassant = m.From + up
		}
		if m.Into != 0 {
			x.Places[m.To] = m.Into * piece
		}
	}
	if piece == 1 || piece == -1 || p.Places[m.To] != 0 {
		x.Half = 0
	}
	if piece == 6 || piece == -6 {
		switch m.To - m.From {
		case 2:
			x.Places[m.To+1], x.Places[m.To-1] = 0, p.Places[m.To+1]
		case -2:
			x.Places[m.To-2], x.Places[m.To+1] = 0, p.Places[m.To-2]
		}
	}
	x.Castle = 0
	for i, names := range []string{"e1 h1", "e1 a1", "e8 h8", "e8 a8"} {
		king, rook := at(names[:2]), at(names[3:])
		if p.Castle>>i%2 == 1 && m.From != king && m.From != rook && m.To != rook {
			x.Castle += 1 << i
		}
	}
	return x
}

func plainCount(p api.Chess, plies int) int {
	if plies == 0 {
		return 1
	}
	n := 0
	for _, m := range plainAll(p) {
		n += plainCount(plainDo(p, m), plies-1)
	}
	return n
}

func plainResult(p api.Chess) int {
	_, dead, _ := chess.Material(p)
	none, check := len(plainAll(p)) == 0, plainAttacked(p, plainKing(p, p.Turn), 1-p.Turn)
	switch {
	case none && check:
		return 1
	case none:
		return 2
	case dead:
		return 3
	case p.Half >= 100:
		return 4
	}
	return 0
}

func plainPlay(p api.Chess, l []api.Move) (last api.Chess, made, times int, e api.Errno) {
	last = clone(p)
	were := []api.Chess{last}
	for _, m := range l {
		if !slices.Contains(plainAll(last), m) {
			e = api.ErrRule
			break
		}
		last = plainDo(last, m)
		were = append(were, last)
		made++
	}
	for _, was := range were {
		if plainOne(was, last) {
			times++
		}
	}
	return last, made, times, e
}

// plainOne: are two positions one?
func plainOne(a, b api.Chess) bool {
	return slices.Equal(a.Places, b.Places) && a.Turn == b.Turn && a.Castle == b.Castle && slices.Equal(plainPassing(a), plainPassing(b))
}

// plainPassing: the moves of pawns to EnPassant that may be made.
func plainPassing(p api.Chess) []api.Move {
	return slices.DeleteFunc(plainAll(p), func(m api.Move) bool {
		return m.To != p.EnPassant || p.Places[m.From] != 1 && p.Places[m.From] != -1
	})
}
