package chess_test

import (
	"fmt"
	"math"
	"regexp"
	"slices"
	"strconv"
	"strings"
	"sync"
	"testing"

	"gameroom/api"
	"gameroom/chess"
)

const spare = -77

// roomy gives a list with spare room, so that a call that writes behind its end is found out.
func roomy(l []int) []int {
	r := make([]int, len(l)+8)
	copy(r, l)
	for i := len(l); i < len(r); i++ {
		r[i] = spare
	}
	return r[:len(l)]
}

func untouched(t *testing.T, what string, l, before []int) {
	t.Helper()
	if !slices.Equal(l, before) {
		t.Errorf("%s changed what was handed in: %v, was %v", what, l, before)
	}
	for _, x := range l[len(l):cap(l)] {
		if x != spare {
			t.Errorf("%s wrote into the spare room of what was handed in", what)
			return
		}
	}
}

// scribble overwrites a list and its spare room.
func scribble(l []int) {
	l = l[:cap(l)]
	for i := range l {
		l[i] = spare
	}
}

// Places by their names.
const (
	a1, e1, h1 = 0, 4, 7
	a8, e8, h8 = 56, 60, 63
)

// at: the place of a name.
func at(name string) int { return int(name[0]-'a') + 8*int(name[1]-'1') }

// atAll: the places of names, rising.
func atAll(names string) []int {
	var l []int
	for name := range strings.FieldsSeq(names) {
		l = append(l, at(name))
	}
	slices.Sort(l)
	return l
}

// of a side to move, and pieces with their places: Ke1 for white's king, ke8 for black's.
func of(turn int, pieces string) api.Chess {
	p := api.Chess{Places: make([]int, 64), Turn: turn, EnPassant: -1, Full: 1}
	for word := range strings.FieldsSeq(pieces) {
		p.Places[at(word[1:])] = numberOf(word[:1])
	}
	return p
}

// numberOf a letter: its piece.
func numberOf(letter string) int {
	if n := strings.Index(" PNBRQK", letter); n > 0 {
		return n
	}
	return -strings.Index(" pnbrqk", letter)
}

func clone(p api.Chess) api.Chess {
	p.Places = slices.Clone(p.Places)
	return p
}

// with another number at a place.
func with(p api.Chess, place, piece int) api.Chess {
	p = clone(p)
	p.Places[place] = piece
	return p
}

func withTurn(p api.Chess, turn int) api.Chess {
	p.Turn = turn
	return p
}

func withCastle(p api.Chess, castle int) api.Chess {
	p.Castle = castle
	return p
}

func withPassed(p api.Chess, place int) api.Chess {
	p.EnPassant = place
	return p
}

func withHalf(p api.Chess, half int) api.Chess {
	p.Half = half
	return p
}

func withFull(p api.Chess, full int) api.Chess {
	p.Full = full
	return p
}

func same(a, b api.Chess) bool {
	return slices.Equal(a.Places, b.Places) && a.Turn == b.Turn && a.Castle == b.Castle && a.EnPassant == b.EnPassant && a.Half == b.Half && a.Full == b.Full
}

func isZero(p api.Chess) bool { return same(p, api.Chess{}) }

// mirrored: ranks turned round, colours changed.
func mirrored(p api.Chess) api.Chess {
	m := clone(p)
	for place, piece := range p.Places {
		m.Places[mirroredPlace(place)] = -piece
	}
	m.Turn = 1 - p.Turn
	m.Castle = p.Castle/4 + p.Castle%4*4
	if p.EnPassant >= 0 {
		m.EnPassant = mirroredPlace(p.EnPassant)
	}
	return m
}

func mirroredPlace(place int) int { return place%8 + 8*(7-place/8) }

// strange numbers, at or beyond what an int of 32 bits holds, or little below 0.
func strange() []int {
	return []int{math.MinInt, -1<<32 - 1, -1 << 32, -2, 1 << 32, 1<<32 + 1, math.MaxInt}
}

// die gives numbers that look drawn, the same each time.
type die uint64

func (d *die) below(n int) int {
	*d = *d*6364136223846793005 + 1442695040888963407
	return int(uint64(*d>>33) % uint64(n))
}

// drawn position with few pieces or many; it may be, though no game need lead there.
func (d *die) drawn() api.Chess {
	for {
		if p := d.anything(); plainMay(p) {
			return p
		}
	}
}

// anything like a position: it may be or not.
func (d *die) anything() api.Chess {
	p := api.Chess{Places: make([]int, 64), Turn: d.below(2), EnPassant: -1, Half: d.below(1000), Full: 1 + d.below(999)}
	kinds := [][]int{{1, -1}, {2, 3, -3, -2}, {3, -3}, {1, 2, 3, 4, 5, -1, -2, -3, -4, -5}, {4, -4, 1, -1}, {5, -5}}[d.below(6)]
	for range d.below([]int{3, 12, 40, 120}[d.below(4)]) {
		p.Places[d.below(64)] = kinds[d.below(len(kinds))]
	}
	for place := range 8 {
		if d.below(40) > 0 {
			p.Places[place], p.Places[56+place] = noPawn(p.Places[place]), noPawn(p.Places[56+place])
		}
	}
	if d.below(2) == 0 {
		p.Places[e1], p.Places[e8] = 6, -6
		for i, corner := range []int{h1, a1, h8, a8} {
			if d.below(2) == 0 {
				p.Places[corner] = 4 - i/2*8
			}
			if d.below(3) == 0 {
				p.Castle += 1 << i
			}
		}
	} else {
		p.Places[d.below(64)] = 6
		p.Places[d.below(64)] = -6
	}
	if d.below(3) == 0 {
		p.EnPassant = []int{40, 16}[p.Turn] + d.below(8)
		up := 8 - 16*p.Turn
		p.Places[p.EnPassant], p.Places[p.EnPassant+up], p.Places[p.EnPassant-up] = 0, 0, 2*p.Turn-1
	}
	return p
}

// noPawn: the piece, or nothing where it is a pawn.
func noPawn(piece int) int {
	if piece == 1 || piece == -1 {
		return 0
	}
	return piece
}

// spoiled: one thing of a position is changed.
func (d *die) spoiled(p api.Chess) api.Chess {
	p = clone(p)
	number := append(strange(), -1, 0, 1, 15, 16, 64, 999, 1000, d.below(64), d.below(64))[d.below(17)]
	switch d.below(8) {
	case 0:
		p.Turn = number
	case 1:
		p.Castle = number
	case 2:
		p.EnPassant = number
	case 3:
		p.Half = number
	case 4:
		p.Full = number
	case 5:
		p.Places[d.below(64)] = number
	case 6:
		p.Places = p.Places[:d.below(65)]
	case 7:
		p.Castle, p.EnPassant = d.below(16), d.below(64)
	}
	return p
}

// The plain ways: each question answered by walking over all places.

func sideOf(piece int) int {
	if piece > 0 {
		return 0
	}
	return 1
}

func plainMay(p api.Chess) bool {
	if len(p.Places) != 64 || p.Turn != 0 && p.Turn != 1 {
		return false
	}
	kings := map[int][]int{}
	for place, piece := range p.Places {
		switch {
		case piece < -6 || piece > 6:
			return false
		case (piece == 1 || piece == -1) && (place < 8 || place > 55):
			return false
		case piece == 6 || piece == -6:
			kings[piece] = append(kings[piece], place)
		}
	}
	if len(kings[6]) != 1 || len(kings[-6]) != 1 {
		return false
	}
	other := kings[6]
	if p.Turn == 0 {
		other = kings[-6]
	}
	return len(plainAttackers(p, other[0], p.Turn)) == 0 && plainRights(p) && plainPassed(p) && p.Half >= 0 && p.Half < 1000 && p.Full >= 1 && p.Full < 1000
}

func plainRights(p api.Chess) bool {
	if p.Castle < 0 || p.Castle > 15 {
		return false
	}
	white, black := p.Places[e1] == 6, p.Places[e8] == -6
	return (p.Castle%2 == 0 || white && p.Places[h1] == 4) &&
		(p.Castle/2%2 == 0 || white && p.Places[a1] == 4) &&
		(p.Castle/4%2 == 0 || black && p.Places[h8] == -4) &&
		(p.Castle/8%2 == 0 || black && p.Places[a8] == -4)
}

func plainPassed(p api.Chess) bool {
	x := p.EnPassant
	switch {
	case x == -1:
		return true
	case p.Turn == 0:
		return x >= 40 && x <= 47 && p.Places[x-8] == -1 && p.Places[x] == 0 && p.Places[x+8] == 0
	}
	return x >= 16 && x <= 23 && p.Places[x+8] == 1 && p.Places[x] == 0 && p.Places[x-8] == 0
}

func plainAttackers(p api.Chess, at, by int) []int {
	var l []int
	for from, piece := range p.Places {
		if piece != 0 && sideOf(piece) == by && plainAttacks(p, from, at) {
			l = append(l, from)
		}
	}
	return l
}

// plainAttacks: does what stands on a place attack another one?
func plainAttacks(p api.Chess, from, to int) bool {
	right, up := to%8-from%8, to/8-from/8
	wide, high := max(right, -right), max(up, -up)
	straight, slanting := (wide == 0) != (high == 0), wide == high && wide > 0
	switch p.Places[from] {
	case 1:
		return wide == 1 && up == 1
	case -1:
		return wide == 1 && up == -1
	case 2, -2:
		return wide*high == 2
	case 3, -3:
		return slanting && plainFree(p, from, to)
	case 4, -4:
		return straight && plainFree(p, from, to)
	case 5, -5:
		return (straight || slanting) && plainFree(p, from, to)
	}
	return max(wide, high) == 1
}

// plainFree: is nothing between two places of a line?
func plainFree(p api.Chess, from, to int) bool {
	right, up := to%8-from%8, to/8-from/8
	n := max(right, -right, up, -up)
	for i := 1; i < n; i++ {
		if p.Places[from+i*right/n+8*(i*up/n)] != 0 {
			return false
		}
	}
	return true
}

func plainShow(p api.Chess) string {
	var ranks []string
	for rank := 7; rank >= 0; rank-- {
		text := ""
		for file := range 8 {
			text += string("kqrbnp.PNBRQK"[6+p.Places[8*rank+file]])
		}
		ranks = append(ranks, regexp.MustCompile(`\.+`).ReplaceAllStringFunc(text, func(s string) string { return fmt.Sprint(len(s)) }))
	}
	castle := ""
	for i, letter := range "KQkq" {
		if p.Castle>>i%2 == 1 {
			castle += string(letter)
		}
	}
	if castle == "" {
		castle = "-"
	}
	return fmt.Sprintf("%s %c %s %s %d %d", strings.Join(ranks, "/"), "wb"[p.Turn], castle, name(p.EnPassant), p.Half, p.Full)
}

// name of a place, or of none.
func name(place int) string {
	if place < 0 {
		return "-"
	}
	return fmt.Sprintf("%c%d", 'a'+place%8, 1+place/8)
}

const rankForm = `[1-8PNBRQKpnbrqk♙♘♗♖♕♔♟♞♝♜♛♚]+`

var form = regexp.MustCompile(`^(` + rankForm + `(?:/` + rankForm + `){7}) ([wb]) (-|K?Q?k?q?) (-|[a-h][1-8]) (0|[1-9][0-9]{0,2}) (0|[1-9][0-9]{0,2})$`)

func plainRead(text string) (api.Chess, api.Errno) {
	words := form.FindStringSubmatch(text)
	if words == nil || words[3] == "" {
		return api.Chess{}, api.ErrForm
	}
	p := api.Chess{Places: make([]int, 64), EnPassant: -1}
	for i, rank := range strings.Split(words[1], "/") {
		for digit := range 9 {
			rank = strings.ReplaceAll(rank, fmt.Sprint(digit), strings.Repeat(".", digit))
		}
		l := []rune(rank)
		if len(l) != 8 {
			return api.Chess{}, api.ErrForm
		}
		for file, sign := range l {
			p.Places[8*(7-i)+file] = plainPiece(sign)
		}
	}
	p.Turn = strings.Index("wb", words[2])
	for i, letter := range "KQkq" {
		if strings.ContainsRune(words[3], letter) {
			p.Castle += 1 << i
		}
	}
	if words[4] != "-" {
		p.EnPassant = at(words[4])
	}
	p.Half, _ = strconv.Atoi(words[5])
	p.Full, _ = strconv.Atoi(words[6])
	if !plainMay(p) {
		return api.Chess{}, api.ErrState
	}
	return p, api.OK
}

func plainPiece(sign rune) int {
	for n, signs := range []string{".", "P♙", "N♘", "B♗", "R♖", "Q♕", "K♔"} {
		if strings.ContainsRune(signs, sign) {
			return n
		}
	}
	for n, signs := range []string{"", "p♟", "n♞", "b♝", "r♜", "q♛", "k♚"} {
		if strings.ContainsRune(signs, sign) {
			return -n
		}
	}
	return spare
}

func plainMaterial(p api.Chess) (int, bool) {
	sum := 0
	light, knights, dark, bright, heavy := 0, 0, 0, 0, 0
	for place, piece := range p.Places {
		sum += map[int]int{1: 1, 2: 3, 3: 3, 4: 5, 5: 9, -1: -1, -2: -3, -3: -3, -4: -5, -5: -9}[piece]
		switch piece {
		case 1, -1, 4, -4, 5, -5:
			heavy++
		case 2, -2:
			light++
			knights++
		case 3, -3:
			light++
			if strings.Contains("a1 c1 e1 g1 b2 d2 f2 h2", name(place%16)) {
				dark++
			} else {
				bright++
			}
		}
	}
	switch {
	case heavy > 0:
		return sum, false
	case light <= 1:
		return sum, true
	}
	return sum, knights == 0 && (dark == 0 || bright == 0)
}

// P15.1

func TestNew(t *testing.T) {
	want := []int{
		4, 2, 3, 5, 6, 3, 2, 4,
		1, 1, 1, 1, 1, 1, 1, 1,
		0, 0, 0, 0, 0, 0, 0, 0,
		0, 0, 0, 0, 0, 0, 0, 0,
		0, 0, 0, 0, 0, 0, 0, 0,
		0, 0, 0, 0, 0, 0, 0, 0,
		-1, -1, -1, -1, -1, -1, -1, -1,
		-4, -2, -3, -5, -6, -3, -2, -4,
	}
	if p := chess.New(); !same(p, api.Chess{Places: want, Castle: 15, EnPassant: -1, Full: 1}) {
		t.Errorf("New() = %v", p)
	}
}

// unmoved kings and rooks: whatever right to castle there is, they may stand so.
const unmoved = "Ke1 Ra1 Rh1 ke8 ra8 rh8"

// fine positions.
func fine() map[string]api.Chess {
	bare := of(0, "Ka1 ka8")
	queens := of(0, "Ka1 ka8")
	for place, piece := range queens.Places {
		if piece == 0 {
			queens.Places[place] = -5
		}
	}
	all := map[string]api.Chess{
		"the beginning":                chess.New(),
		"kings alone":                  bare,
		"kings alone, black to move":   withTurn(bare, 1),
		"62 queens of the other":       queens,
		"the mover is in check":        of(0, "Ka1 ra8 kh8"),
		"black is in check":            of(1, "Ka1 Ra8 kh8"),
		"kings two files apart":        of(1, "Kd4 kf4"),
		"kings two ranks apart":        of(0, "Kd4 kd6"),
		"at both ends of neighbours":   of(0, "Kh1 ka2"),
		"pawns on the second rank":     of(0, "Ke1 ke8 Pa2 Ph2 pb2 pg2"),
		"pawns on the seventh rank":    of(0, "Ke1 ke8 Pa7 Ph7 pb7 pg7"),
		"nine queens and more knights": of(0, "Ke1 ke8 qa2 qb2 qc3 qa3 qa4 qb4 qc4 qa5 qb5 nh7 nh6 nh5"),
		"999 half moves":               withHalf(bare, 999),
		"one half move":                withHalf(bare, 1),
		"move 999":                     withFull(bare, 999),
		"half moves beyond all moves":  withHalf(withFull(bare, 1), 500),
		"no rights to castle":          of(0, unmoved),
		"passed, though nobody is by":  withPassed(of(0, "Ka1 ka8 pd5"), at("d6")),
		"passed and in check of it":    withPassed(of(0, "Kc4 ka8 pd5"), at("d6")),
		"passed with a check besides":  withPassed(of(1, "Ka1 ka8 Ra2 Pd4"), at("d3")),
	}
	for castle := range 16 {
		all[fmt.Sprint("castle ", castle)] = withCastle(of(castle%2, unmoved), castle)
	}
	for i, pieces := range []string{"Ke1 Rh1 kb7", "Ke1 Ra1 kb7", "ke8 rh8 Kb2", "ke8 ra8 Kb2"} {
		all[fmt.Sprint("castle with one rook ", 1<<i)] = withCastle(of(sideOf(1-i/2*2), pieces), 1<<i)
	}
	for file := range 8 {
		all[fmt.Sprint("black has passed on file ", file)] = withPassed(with(of(0, "Ka1 ka8"), 32+file, -1), 40+file)
		all[fmt.Sprint("white has passed on file ", file)] = withPassed(with(of(1, "Ka1 ka8"), 24+file, 1), 16+file)
	}
	return all
}

// wrong positions: each has one fault.
func wrong() map[string]api.Chess {
	begin, bare := chess.New(), of(0, "Ka1 kh8")
	all := map[string]api.Chess{
		"nothing":                   {},
		"no places":                 {EnPassant: -1, Full: 1},
		"a place too few":           {Places: begin.Places[:63], EnPassant: -1, Full: 1},
		"a place too many":          {Places: append(slices.Clone(begin.Places), 0), EnPassant: -1, Full: 1},
		"very many places":          {Places: append(slices.Clone(begin.Places), make([]int, 1<<16)...), EnPassant: -1, Full: 1},
		"no kings":                  of(0, ""),
		"no king of white":          of(0, "kh8"),
		"no king of black":          of(1, "Ka1"),
		"two kings of white":        of(0, "Ka1 Kc1 kh8"),
		"two kings of black":        of(1, "Ka1 kh8 kf8"),
		"three kings of black":      of(0, "Ka1 kh8 kf8 kd8"),
		"two kings of one":          of(0, "Ka1 Kh8"),
		"two kings of the other":    of(0, "ka1 kh8"),
		"two kings of each":         of(0, "Ka1 Kc1 kh8 kf8"),
		"half moves below 0":        withHalf(begin, -1),
		"1000 half moves":           withHalf(begin, 1000),
		"move 0":                    withFull(begin, 0),
		"move -1":                   withFull(begin, -1),
		"move 1000":                 withFull(begin, 1000),
		"turn -1":                   withTurn(begin, -1),
		"turn 2":                    withTurn(begin, 2),
		"castle -1":                 withCastle(begin, -1),
		"castle 16":                 withCastle(begin, 16),
		"castle 31":                 withCastle(begin, 31),
		"the other is in check":     of(0, "Ka1 Rh1 kh8"),
		"white is in check":         of(1, "Ka1 ra8 kh8"),
		"both are in check":         of(0, "Ka1 Rh1 kh8 ra8"),
		"passed, and king attacked": withPassed(of(0, "Ka1 Rh1 kh8 pd5"), at("d6")),
	}
	for _, n := range strange() {
		all[fmt.Sprint("half ", n)] = withHalf(begin, n)
		all[fmt.Sprint("full ", n)] = withFull(begin, n)
		all[fmt.Sprint("turn ", n)] = withTurn(begin, n)
		all[fmt.Sprint("castle ", n)] = withCastle(begin, n)
		all[fmt.Sprint("passed ", n)] = withPassed(begin, n)
	}
	for place := range 64 {
		for _, piece := range []int{math.MinInt, -1<<32 - 1, -1 << 32, -7, 7, 8, 1 << 32, 1<<32 + 1, math.MaxInt} {
			if bare.Places[place] == 0 {
				all[fmt.Sprint(piece, " on ", place)] = with(bare, place, piece)
			}
		}
		if place < 8 || place > 55 {
			all[fmt.Sprint("a white pawn on ", place)] = with(of(0, "Kh4 ka4"), place, 1)
			all[fmt.Sprint("a black pawn on ", place)] = with(of(1, "Kh4 ka4"), place, -1)
		}
	}
	addWrongRights(all)
	addWrongPassed(all)
	addAttackedKings(all)
	return all
}

// addWrongRights: a right to castle though the king, or the rook, or both are elsewhere, or not of that side.
func addWrongRights(all map[string]api.Chess) {
	begin := of(0, unmoved)
	corners := []int{h1, a1, h8, a8}
	for i, corner := range corners {
		all[fmt.Sprint("no rook for ", 1<<i)] = withCastle(with(begin, corner, 0), 1<<i)
		all[fmt.Sprint("no rook for all of them, without ", 1<<i)] = withCastle(with(begin, corner, 0), 15)
		for piece := -5; piece <= 5; piece++ {
			if p := withCastle(with(begin, corner, piece), 1<<i); piece != 4-i/2*8 && piece != 1 && piece != -1 {
				p.Turn = 1 - sideOf(piece) // so that nobody who is not to move is attacked
				all[fmt.Sprint(piece, " for the rook of ", 1<<i)] = p
			}
		}
	}
	for castle := 1; castle < 16; castle++ {
		if castle%4 > 0 {
			all[fmt.Sprint("white's king has moved, castle ", castle)] = withCastle(of(1, "Ke2 Ra1 Rh1 ke8 ra8 rh8"), castle)
			all[fmt.Sprint("white's king and queen, castle ", castle)] = withCastle(of(1, "Kd1 Qe1 Ra1 Rh1 kf8 ra8 rh8"), castle)
		}
		if castle/4 > 0 {
			all[fmt.Sprint("black's king has moved, castle ", castle)] = withCastle(of(0, "Ke1 Ra1 Rh1 kd8 ra8 rh8"), castle)
		}
		all[fmt.Sprint("kings have changed places, castle ", castle)] = withCastle(of(0, "ke1 Ra2 Rh2 Ke8 ra7 rh7"), castle)
		all[fmt.Sprint("kings alone, castle ", castle)] = withCastle(of(0, "Ke1 ke8"), castle)
	}
}

// addWrongPassed: EnPassant where no pawn can just have gone over it.
func addWrongPassed(all map[string]api.Chess) {
	black, white := of(0, "Kh1 kh8"), of(1, "Kh1 kh8")
	for rank := range 8 { // a pawn's move of two places, but elsewhere
		for file := range 6 {
			place := 8*rank + file
			if p := withPassed(black, place); rank != 5 {
				if rank > 1 {
					p = with(p, place-8, -1)
				}
				all[fmt.Sprint("black has passed ", place)] = p
			}
			if p := withPassed(white, place); rank != 2 {
				if rank < 6 {
					p = with(p, place+8, 1)
				}
				all[fmt.Sprint("white has passed ", place)] = p
			}
		}
	}
	for _, place := range []int{-64, -41, -40, -9, -8, -7, -3, -2, 64, 65, 100} {
		all[fmt.Sprint("black has passed ", place)] = withPassed(black, place)
		all[fmt.Sprint("white has passed ", place)] = withPassed(white, place)
	}
	for _, c := range []struct {
		what   string
		turn   int
		pieces string
		passed string
	}{
		{"no pawn", 0, "Kh1 kh8", "d6"},
		{"no pawn of white", 1, "Kh1 kh8", "d3"},
		{"an own pawn", 0, "Kh1 kh8 Pd5", "d6"},
		{"an own pawn of black", 1, "Kh1 kh8 pd4", "d3"},
		{"a knight", 0, "Kh1 kh8 nd5", "d6"},
		{"a knight of white", 1, "Kh1 kh8 Nd4", "d3"},
		{"the king", 0, "Kh1 kd5", "d6"},
		{"a pawn beside", 0, "Kh1 kh8 pc5 pe5", "d6"},
		{"a pawn beside, of white", 1, "Kh1 kh8 Pc4 Pe4", "d3"},
		{"a pawn above", 0, "Kh1 kh8 pd7", "d6"},
		{"a pawn below, of white", 1, "Kh1 kh8 Pd2", "d3"},
		{"the mover has passed", 0, "Kh1 kh8 Pd4", "d3"},
		{"the mover has passed, black", 1, "Kh1 kh8 pd5", "d6"},
		{"over a piece", 0, "Kh1 kh8 pd5 nd6", "d6"},
		{"over a piece of the other", 0, "Kh1 kh8 pd5 Nd6", "d6"},
		{"over a pawn", 1, "Kh1 kh8 Pd4 Pd3", "d3"},
		{"over a piece, white", 1, "Kh1 kh8 Pd4 bd3", "d3"},
		{"from a place with a pawn", 0, "Kh1 kh8 pd5 pd7", "d6"},
		{"from a place with a piece of the other", 0, "Kh1 kh8 pd5 Nd7", "d6"},
		{"from a place with a pawn, white", 1, "Kh1 kh8 Pd4 Pd2", "d3"},
		{"from a place with the king, white", 1, "Kd2 kh8 Pd4", "d3"},
	} {
		all["passed: "+c.what] = withPassed(of(c.turn, c.pieces), at(c.passed))
	}
}

// addAttackedKings: the king of the side that is not to move is attacked, by each kind from each place from which it can be.
func addAttackedKings(all map[string]api.Chess) {
	for from := range 64 {
		for kind := 1; kind <= 5; kind++ {
			if kind == 1 && (from < 8 || from > 55) {
				continue
			}
			for _, king := range []string{"d4", "g7"} {
				p := of(0, "Ka2 k"+king)
				if p.Places[from] != 0 {
					continue
				}
				if p = with(p, from, kind); plainAttacks(p, from, at(king)) {
					all[fmt.Sprint("king on ", king, " attacked by ", kind, " on ", from)] = p
					all[fmt.Sprint("king on ", king, " attacked by ", kind, " on ", from, " mirrored")] = mirrored(p)
				}
			}
		}
		for turn := range 2 {
			if p := with(of(turn, "Ke3"), from, -6); from != at("e3") && plainAttacks(p, from, at("e3")) {
				all[fmt.Sprint("kings beside each other, ", from, ", turn ", turn)] = p
			}
		}
	}
}

func TestMay(t *testing.T) {
	for what, p := range fine() {
		if !chess.May(p) {
			t.Errorf("%s may not be: %v", what, p)
		}
	}
	faults := wrong()
	for what, p := range faults {
		if chess.May(p) {
			t.Errorf("%s may be: %v", what, p)
		}
	}
	if len(faults) < 900 {
		t.Errorf("only %d wrong positions", len(faults))
	}
}

func TestMayOfMany(t *testing.T) {
	d := die(151)
	var seen [2]int
	for range 20000 {
		p := d.anything()
		if d.below(3) == 0 {
			p = d.spoiled(p)
		}
		want := plainMay(p)
		if ok := chess.May(p); ok != want {
			t.Fatalf("May(%v) = %v", p, ok)
		}
		if want {
			seen[1]++
		} else {
			seen[0]++
		}
	}
	if min(seen[0], seen[1]) < 2000 {
		t.Errorf("wrong and fine ones: %v", seen)
	}
}

// P15.2

func TestShow(t *testing.T) {
	for _, c := range []struct {
		p    api.Chess
		want string
	}{
		{chess.New(), "rnbqkbnr/pppppppp/8/8/8/8/PPPPPPPP/RNBQKBNR w KQkq - 0 1"},
		{of(1, "Ka1 kh8"), "7k/8/8/8/8/8/8/K7 b - - 0 1"},
		{of(0, "Kh1 ka8"), "k7/8/8/8/8/8/8/7K w - - 0 1"},
		{of(0, "Kb2 kg7 Pb3 nd3 Qh3"), "8/6k1/8/8/8/1P1n3Q/1K6/8 w - - 0 1"},
		{withCastle(of(0, unmoved), 1), "r3k2r/8/8/8/8/8/8/R3K2R w K - 0 1"},
		{withCastle(of(0, unmoved), 2), "r3k2r/8/8/8/8/8/8/R3K2R w Q - 0 1"},
		{withCastle(of(1, unmoved), 4), "r3k2r/8/8/8/8/8/8/R3K2R b k - 0 1"},
		{withCastle(of(0, unmoved), 8), "r3k2r/8/8/8/8/8/8/R3K2R w q - 0 1"},
		{withCastle(of(0, unmoved), 6), "r3k2r/8/8/8/8/8/8/R3K2R w Qk - 0 1"},
		{withCastle(of(0, unmoved), 13), "r3k2r/8/8/8/8/8/8/R3K2R w Kkq - 0 1"},
		{withPassed(of(0, "Ke1 ke8 Pe5 pd5"), at("d6")), "4k3/8/8/3pP3/8/8/8/4K3 w - d6 0 1"},
		{withPassed(of(1, "Ke1 ke8 Ph4"), at("h3")), "4k3/8/8/8/7P/8/8/4K3 b - h3 0 1"},
		{withHalf(withFull(of(0, "Ka1 kh8"), 999), 10), "7k/8/8/8/8/8/8/K7 w - - 10 999"},
		{withHalf(withFull(of(0, "Ka1 kh8"), 50), 999), "7k/8/8/8/8/8/8/K7 w - - 999 50"},
	} {
		if text, e := chess.Show(c.p); text != c.want || e != api.OK {
			t.Errorf("Show(%v) = %q, %d; want %q", c.p, text, e, c.want)
		}
		if p, e := chess.Read(c.want); !same(p, c.p) || e != api.OK {
			t.Errorf("Read(%q) = %v, %d; want %v", c.want, p, e, c.p)
		}
	}
}

func TestShowRefuses(t *testing.T) {
	for what, p := range wrong() {
		if text, e := chess.Show(p); text != "" || e != api.ErrState {
			t.Errorf("Show of %s: %q, %d", what, text, e)
		}
	}
}

func TestWhatIsShownIsReadAgain(t *testing.T) {
	d := die(152)
	look := func(p api.Chess) {
		text, e := chess.Show(p)
		if text != plainShow(p) || e != api.OK {
			t.Fatalf("Show(%v) = %q, %d; want %q", p, text, e, plainShow(p))
		}
		if back, e := chess.Read(text); !same(back, p) || e != api.OK {
			t.Fatalf("Read(%q) = %v, %d; want %v", text, back, e, p)
		}
	}
	for _, p := range fine() {
		look(p)
	}
	for range 3000 {
		look(d.drawn())
	}
}

func TestRead(t *testing.T) {
	for _, c := range []struct {
		text string
		want api.Chess
	}{
		{"♜♞♝♛♚♝♞♜/♟♟♟♟♟♟♟♟/8/8/8/8/♙♙♙♙♙♙♙♙/♖♘♗♕♔♗♘♖ w KQkq - 0 1", chess.New()},
		{"r♞bq♚bn♜/p♟pppppp/8/8/8/8/P♙PPPPPP/♖NBQKB♘R w KQkq - 0 1", chess.New()},
		{"rnbqkbnr/pppppppp/11111111/44/2222/161/PPPPPPPP/RNBQKBNR w KQkq - 0 1", chess.New()},
		{"7k/17/26/35/53/62/71/K1111111 w - - 0 1", of(0, "Ka1 kh8")},
		{"7k/8/8/8/8/8/8/K124 b - - 0 1", of(1, "Ka1 kh8")},
		{"7k/8/8/8/8/8/8/♔124 b - - 99 100", withHalf(withFull(of(1, "Ka1 kh8"), 100), 99)},
		{"7♚/8/8/8/8/8/8/♔7 w - - 999 999", withHalf(withFull(of(0, "Ka1 kh8"), 999), 999)},
	} {
		if p, e := chess.Read(c.text); !same(p, c.want) || e != api.OK {
			t.Errorf("Read(%q) = %v, %d; want %v", c.text, p, e, c.want)
		}
	}
}

// misshapen texts: each has one fault.
func misshapen() []string {
	const rest = " w - - 0 1"
	const bare = "7k/8/8/8/8/8/8/K7"
	l := []string{"", " ", "      ", "/", "w", bare}
	for _, places := range []string{
		"", "-", "8", "/", "///////",
		"7k/8/8/8/8/8/K7", "7k/8/8/8/8/8/8/8/K7", "7k/8/8/8/8/8/8/K7/", "/7k/8/8/8/8/8/8/K7", "7k/8/8/8//8/8/K7", "7k/8/8//8/8/8/8/K7", "7k8/8/8/8/8/8/K7",
		"7k/8/8/8/8/8/8/K6", "7k/8/8/8/8/8/8/K8", "7k/8/8/8/8/8/8/K", "8k/8/8/8/8/8/8/K7", "6k/8/8/8/8/8/8/K7", "7kp/8/8/8/8/8/8/K7", "7k/8/8/8/8/8/8/K61P",
		"7k/7/8/8/8/8/8/K7", "7k/9/8/8/8/8/8/K7", "7k/0/8/8/8/8/8/K7", "7k/80/8/8/8/8/8/K7", "7k/08/8/8/8/8/8/K7", "7k/404/8/8/8/8/8/K7", "7k/81/8/8/8/8/8/K7", "7k/18/8/8/8/8/8/K7", "7k/88/8/8/8/8/8/K7", "7k/45/8/8/8/8/8/K7", "7k/ppppppppp/8/8/8/8/8/K7",
		"7k/x7/8/8/8/8/8/K7", "7k/.7/8/8/8/8/8/K7", "7k/-7/8/8/8/8/8/K7", "7k/+8/8/8/8/8/8/K7", "7k/-8/8/8/8/8/8/K7", "7k/d7/8/8/8/8/8/K7", "7k/é7/8/8/8/8/8/K7", "7k/\xff7/8/8/8/8/8/K7", "7k/\xe2\x997/8/8/8/8/8/K7", "7k/\ufffd7/8/8/8/8/8/K7", "7k/♠7/8/8/8/8/8/K7", "7k/♟\ufe0f7/8/8/8/8/8/K7", "7k/８/8/8/8/8/8/K7", "7k/٨/8/8/8/8/8/K7", "7k/Р7/8/8/8/8/8/K7", "7k/\x007/8/8/8/8/8/K7",
		`7k\8\8\8\8\8\8\K7`, "7k,8,8,8,8,8,8,K7", "7k/8/8/8/ 8/8/8/K7", "7k/8/8/8/8/8/8/K7\n",
	} {
		l = append(l, places+rest)
	}
	for _, turn := range []string{"", "-", "W", "B", "0", "1", "wb", "ww", "white", "x", "ẃ", "\xff", "w\t", "b-"} {
		l = append(l, bare+" "+turn+" - - 0 1")
	}
	for _, castle := range []string{"", "--", "0", "15", "x", "KK", "QK", "kK", "qQ", "qk", "KQqk", "kqKQ", "KQkqK", "KQkqx", "-K", "K-", "KQkq-", "K Q", "♔", "\xff", "w"} {
		l = append(l, "r3k2r/8/8/8/8/8/8/R3K2R w "+castle+" - 0 1")
	}
	for _, passed := range []string{"", "--", "d", "6", "6d", "D6", "d0", "d9", "d66", "dd6", "i6", "`6", "d-", "-6", "43", "d６", "é6", "\xff6", "d\xff", "♙6", "d6-"} {
		l = append(l, "4k3/8/8/3pP3/8/8/8/4K3 w - "+passed+" 0 1")
	}
	for _, number := range []string{"", "-", "00", "01", "000", "001", "010", "0000", "1000", "9999", "00000000001", "18446744073709551617", "4294967297", "-1", "+1", "-0", "1.", "1.0", "1e1", "0x1", "1_0", "a", "１", "١", "\xff", "1\n", "\t1"} {
		l = append(l, bare+" w - - "+number+" 1", bare+" w - - 0 "+number)
	}
	good := bare + rest
	l = append(l, " "+good, good+" ", good+" 1", good+"  ", "\n"+good, good+"\n", good+"\x00", strings.ReplaceAll(good, " ", "\t"), strings.ReplaceAll(good, " ", "\u00a0"), strings.ReplaceAll(good, " ", ""), strings.ReplaceAll(good, " ", "  "), good+" "+good)
	for i, sign := range good {
		if sign == ' ' {
			l = append(l, good[:i]+" "+good[i:], good[:i]+good[i+1:], good[:i]+"\t"+good[i+1:], good[:i]+"\n"+good[i+1:])
		}
	}
	words := strings.Fields(good)
	for i := range words {
		l = append(l, strings.Join(words[:i], " "), strings.Join(append(slices.Clone(words[:i]), words[i+1:]...), " "))
	}
	return l
}

func TestReadRefusesForm(t *testing.T) {
	for _, text := range misshapen() {
		if p, e := chess.Read(text); !isZero(p) || e != api.ErrForm {
			t.Errorf("Read(%q) = %v, %d", text, p, e)
		}
	}
	// The form is looked at first, whatever else is wrong.
	for _, text := range []string{"8/8/8/8/8/8/8/8 w - - 0 01", "8/8/8/8/8/8/8/8 w KQkq e9 0 1", "PPPPPPPP/8/8/8/8/8/8/7 w - - 0 1", "7k/8/8/8/8/8/8/K7 w KQkq d6 0 x", "7k/8/8/8/8/8/8/K7 w qk - 0 0"} {
		if p, e := chess.Read(text); !isZero(p) || e != api.ErrForm {
			t.Errorf("Read(%q) = %v, %d", text, p, e)
		}
	}
}

func TestReadRefusesState(t *testing.T) {
	for _, text := range []string{
		"8/8/8/8/8/8/8/8 w - - 0 1",
		"7k/8/8/8/8/8/8/8 w - - 0 1",
		"7k/8/8/8/8/8/8/KK6 w - - 0 1",
		"7♔/8/8/8/8/8/8/K7 w - - 0 1",
		"7k/8/8/8/8/8/8/K6P w - - 0 1",
		"p6k/8/8/8/8/8/8/K7 w - - 0 1",
		"7k/8/8/8/8/8/8/K6R w - - 0 1",
		"r6k/8/8/8/8/8/8/K7 b - - 0 1",
		"7k/8/8/8/8/8/8/K7 w K - 0 1",
		"7k/8/8/8/8/8/8/K7 w q - 0 1",
		"r3k2r/8/8/8/8/8/8/R3K3 w KQkq - 0 1",
		"4k3/8/8/3pP3/8/8/8/4K3 w - d5 0 1",
		"4k3/8/8/3pP3/8/8/8/4K3 w - e6 0 1",
		"4k3/8/8/3pP3/8/8/8/4K3 w - a1 0 1",
		"4k3/8/8/3pP3/8/8/8/4K3 w - h8 0 1",
		"4k3/8/8/3pP3/8/8/8/4K3 b - d6 0 1",
		"4k3/8/3n4/3pP3/8/8/8/4K3 w - d6 0 1",
		"4k3/3p4/8/3pP3/8/8/8/4K3 w - d6 0 1",
		"7k/8/8/8/8/8/8/K7 w - - 0 0",
		"7k/8/8/8/8/8/8/K7 w - - 999 0",
	} {
		if p, e := chess.Read(text); !isZero(p) || e != api.ErrState {
			t.Errorf("Read(%q) = %v, %d", text, p, e)
		}
	}
	// Wrong positions that can be written down nevertheless.
	written := 0
	for what, p := range wrong() {
		if !canBeWritten(p) {
			continue
		}
		written++
		if q, e := chess.Read(plainShow(p)); !isZero(q) || e != api.ErrState {
			t.Errorf("Read(%q), %s: %v, %d", plainShow(p), what, q, e)
		}
	}
	if written < 200 {
		t.Errorf("only %d were written down", written)
	}
}

// canBeWritten: is there a text for all that it has?
func canBeWritten(p api.Chess) bool {
	small := func(n, least, most int) bool { return n >= least && n <= most }
	for _, piece := range p.Places {
		if !small(piece, -6, 6) {
			return false
		}
	}
	return len(p.Places) == 64 && small(p.Turn, 0, 1) && small(p.Castle, 0, 15) && small(p.EnPassant, -1, 63) && small(p.Half, 0, 999) && small(p.Full, 0, 999)
}

// A sign is put in, taken out or changed here and there.
func TestReadOfMany(t *testing.T) {
	d := die(153)
	signs := []string{"", "", "0", "1", "2", "4", "8", "9", "/", " ", "-", "w", "b", "K", "k", "Q", "q", "P", "p", "n", "R", "♙", "♘", "♗", "♖", "♕", "♔", "♟", "♞", "♝", "♜", "♛", "♚", "a", "3", "6", "44", "x", "é", "\xe2", "\x99"}
	seen := map[api.Errno]int{}
	for range 30000 {
		text := plainShow(d.drawn())
		for range d.below(3) {
			i := d.below(len(text))
			text = text[:i] + signs[d.below(len(signs))] + text[min(i+d.below(2), len(text)):]
		}
		want, f := plainRead(text)
		if p, e := chess.Read(text); !same(p, want) || e != f {
			t.Fatalf("Read(%q) = %v, %d; want %v, %d", text, p, e, want, f)
		}
		seen[f]++
	}
	if seen[api.OK] < 3000 || seen[api.ErrForm] < 3000 || seen[api.ErrState] < 300 {
		t.Errorf("too few of a kind: %v", seen)
	}
}

// Each sign that is one letter stands for what it should, and no other sign stands for anything.
func TestReadOfEachSign(t *testing.T) {
	read := 0
	for sign := rune(0); sign < 0x2800; sign++ {
		text := "k7/8/8/8/3" + string(sign) + "4/8/8/7K w - - 0 1"
		want, f := plainRead(text)
		if p, e := chess.Read(text); !same(p, want) || e != f {
			t.Errorf("Read(%q) = %v, %d; want %v, %d", text, p, e, want, f)
		}
		if f != api.ErrForm {
			read++
		}
	}
	if read != 12+12+1 { // letters, pictures, and 1
		t.Errorf("%d signs were read", read)
	}
}

func TestReadOfAllNumbers(t *testing.T) {
	for n := range 1100 {
		for _, c := range []struct {
			half, full string
			least      int
		}{{fmt.Sprint(n), "7", 0}, {"7", fmt.Sprint(n), 1}} {
			want := api.OK
			if n < c.least {
				want = api.ErrState
			} else if n > 999 {
				want = api.ErrForm
			}
			text := "7k/8/8/8/8/8/8/K7 w - - " + c.half + " " + c.full
			p, e := chess.Read(text)
			if e != want || e == api.OK && p.Half+p.Full != n+7 || e == api.OK && p.Half != n && p.Full != n {
				t.Errorf("Read(%q) = %v, %d", text, p, e)
			}
		}
	}
}

func TestLongTexts(t *testing.T) {
	const long = 1 << 20
	const good = "7k/8/8/8/8/8/8/K7 w - - 0 1"
	for _, sign := range []string{" ", "/", "0", "1", "8", "k", "-", "♙", "\xff", "K"} {
		more := strings.Repeat(sign, long)
		words := strings.Fields(good)
		texts := []string{more, more + good, good + more}
		for i := range words {
			texts = append(texts, strings.Join(words[:i], " ")+" "+more+" "+strings.Join(words[i:], " "))
			longer := slices.Clone(words)
			longer[i] += more
			texts = append(texts, strings.Join(longer, " "))
		}
		for i, text := range texts {
			if p, e := chess.Read(text); !isZero(p) || e != api.ErrForm {
				t.Errorf("long text %d of %q: %v, %d", i, sign, p, e)
			}
		}
	}
}

// P15.3

func TestAttackers(t *testing.T) {
	for _, c := range []struct {
		what   string
		pieces string
		at     string
		by     int
		want   string
	}{
		{"a white pawn, upwards", "Ka1 ka8 Pd4", "c5", 0, "d4"},
		{"a white pawn, to the right", "Ka1 ka8 Pd4", "e5", 0, "d4"},
		{"a white pawn, not straight", "Ka1 ka8 Pd4", "d5", 0, ""},
		{"a white pawn, not downwards", "Ka1 ka8 Pd4", "c3", 0, ""},
		{"a white pawn, not sideways", "Ka1 ka8 Pd4", "e4", 0, ""},
		{"a black pawn, downwards", "Ka1 ka8 pd4", "c3", 1, "d4"},
		{"a black pawn, not upwards", "Ka1 ka8 pd4", "e5", 1, ""},
		{"a black pawn, not straight", "Ka1 ka8 pd4", "d3", 1, ""},
		{"two pawns", "Ka1 ka8 Pc4 Pe4", "d5", 0, "c4 e4"},
		{"not over the border", "Kc1 kc8 Ph4", "a5", 0, ""},
		{"not over the border, the other way", "Kc1 kc8 Pa4", "h5", 0, ""},
		{"not over the border, nor a rank on", "Kc1 kc8 Ph4 Pa3", "a6", 0, ""},
		{"a pawn on the seventh rank", "Ka1 ka8 Pd7", "e8", 0, "d7"},
		{"a pawn on the second rank", "Ka1 ka8 pd2", "c1", 1, "d2"},
		{"eight knights", "Ka1 ka8 Nb3 Nb5 Nc2 Nc6 Ne2 Ne6 Nf3 Nf5", "d4", 0, "b3 b5 c2 c6 e2 e6 f3 f5"},
		{"knights over others", "Ka1 ka8 Nd4 Pc5 pd5 Pe5 Pc4 Pe4", "e6", 0, "d4"},
		{"a knight, not over the border", "Kd1 kd8 Ng1", "a3", 0, ""},
		{"knights in corners", "Kd4 kd8 Na1 Nh1 Nh8", "b3", 0, "a1"},
		{"a bishop far off", "Kb1 kb8 Ba1", "h8", 0, "a1"},
		{"a bishop with a piece in the way", "Kb1 kb8 Ba1 pd4", "h8", 0, ""},
		{"a bishop and what is in the way", "Kb1 kb8 Ba1 pd4", "d4", 0, "a1"},
		{"a bishop and what is in the way, its own", "Kb1 kb8 Ba1 Pd4", "d4", 0, "a1"},
		{"a bishop, not straight", "Kb1 kb8 Bd4", "d5", 0, ""},
		{"four bishops", "Kb1 kb8 Ba7 Bf2 Bh8 Bc3", "d4", 0, "a7 f2 h8 c3"},
		{"rooks far off", "Kb2 kb7 Ra4 Rd8 Rh4 Rd1", "d4", 0, "a4 d1 d8 h4"},
		{"a rook behind a rook", "Kb2 kb7 Rd1 Rd2", "d4", 0, "d2"},
		{"a rook, not slanting", "Kb2 kb7 Rd1", "e2", 0, ""},
		{"a rook, not over the border", "Kb2 kb7 Rh4", "a5", 0, ""},
		{"queens all around", "Ka2 ka7 qa4 qd8 qh4 qd1 qa1 qh8 qg1 qb6", "d4", 1, "a1 d1 g1 a4 h4 b6 d8 h8"},
		{"a queen is no knight", "Ka2 ka7 qd4", "e6", 1, ""},
		{"a king", "Kd4 ka7", "e5", 0, "d4"},
		{"a king, straight", "Kd4 ka7", "d3", 0, "d4"},
		{"a king, not far", "Kd4 ka7", "f4", 0, ""},
		{"a king, not over the border", "Kh4 kd8", "a4", 0, ""},
		{"a king, not over the border, a rank on", "Kh4 kd8", "a5", 0, ""},
		{"nothing attacks its own place", "Kd4 ka7 Qd1", "d1", 0, ""},
		{"the other's do not count", "Kd4 ka7 qh4 Rc1 pc5 Na5", "c4", 0, "c1 d4 a5"},
		{"of the other alone", "Kd4 ka7 rc8 qg4 pd5 nb6 Rc1", "c4", 1, "d5 b6 c8"},
		{"a piece that may not move away", "Ke1 ke8 Ne4 re7", "f6", 0, "e4"},
		{"a place with an own piece", "Ke1 ke8 Rd5 Nc3", "d5", 0, "c3"},
		{"through a king nothing goes", "Kd4 ka7 ra4", "h4", 1, ""},
		{"all kinds at once", "Kc5 ka8 Qh8 Rd8 Bg7 Nb3 Pc3 Pe3", "d4", 0, "b3 c3 e3 c5 g7 d8"},
	} {
		p := of(0, c.pieces)
		if !chess.May(p) {
			p.Turn = 1
		}
		want := atAll(c.want)
		if l, e := chess.Attackers(p, at(c.at), c.by); !slices.Equal(l, want) || e != api.OK {
			t.Errorf("%s: %v, %d; want %v", c.what, l, e, want)
		}
		m := mirrored(p)
		for i := range want {
			want[i] = mirroredPlace(want[i])
		}
		slices.Sort(want)
		if l, e := chess.Attackers(m, mirroredPlace(at(c.at)), 1-c.by); !slices.Equal(l, want) || e != api.OK {
			t.Errorf("%s, mirrored: %v, %d; want %v", c.what, l, e, want)
		}
	}
}

// Each piece alone, from each place to each.
func TestAttackersOfOnePiece(t *testing.T) {
	asked := 0
	for from := range 64 {
		for piece := -6; piece <= 6; piece++ {
			p, ok := alone(piece, from)
			if !ok {
				continue
			}
			for to := range 64 {
				want := plainAttackers(p, to, sideOf(piece))
				if l, e := chess.Attackers(p, to, sideOf(piece)); !slices.Equal(l, want) || e != api.OK {
					t.Errorf("Attackers(%v, %d, %d) = %v, %d; want %v", p, to, sideOf(piece), l, e, want)
				}
				asked++
			}
		}
	}
	if asked < 64*(64*10+48*2)*9/10 {
		t.Errorf("only %d were asked", asked)
	}
}

// alone: a piece on a place, with the kings that must be there, if there is such a position.
func alone(piece, from int) (api.Chess, bool) {
	p := api.Chess{Places: make([]int, 64), EnPassant: -1, Full: 1}
	p.Places[from] = piece
	for _, kings := range [][2]int{{0, 63}, {7, 56}, {3, 59}, {17, 46}} {
		x := clone(p)
		if piece != 6 {
			x = with(x, kings[0], 6)
		}
		if piece != -6 {
			x = with(x, kings[1], -6)
		}
		for turn := range 2 {
			if x.Turn = turn; x.Places[from] == piece && plainMay(x) {
				return x, piece != 0
			}
		}
	}
	return p, false
}

func TestAttackersOfMany(t *testing.T) {
	d := die(154)
	most := 0
	look := func(p api.Chess) {
		m := mirrored(p)
		for place := range 64 {
			for side := range 2 {
				want := plainAttackers(p, place, side)
				l, e := chess.Attackers(p, place, side)
				if !slices.Equal(l, want) || e != api.OK {
					t.Fatalf("Attackers(%v, %d, %d) = %v, %d; want %v", p, place, side, l, e, want)
				}
				if !slices.IsSorted(l) {
					t.Fatalf("Attackers(%v, %d, %d) = %v does not rise", p, place, side, l)
				}
				turned, e := chess.Attackers(m, mirroredPlace(place), 1-side)
				for i := range turned {
					turned[i] = mirroredPlace(turned[i])
				}
				slices.Sort(turned)
				if !slices.Equal(turned, l) || e != api.OK {
					t.Fatalf("Attackers(%v, %d, %d), mirrored: %v, %d; want %v", p, place, side, turned, e, l)
				}
				most = max(most, len(l))
			}
		}
	}
	for _, p := range fine() {
		look(p)
	}
	for range 1500 {
		look(d.drawn())
	}
	if most < 6 {
		t.Errorf("at most %d attackers", most)
	}
}

func TestAttackersRefuses(t *testing.T) {
	refused := func(what string, p api.Chess, place, by int, want api.Errno) {
		t.Helper()
		if l, e := chess.Attackers(p, place, by); len(l) != 0 || e != want {
			t.Errorf("Attackers of %s, %d, %d: %v, %d; want %d", what, place, by, l, e, want)
		}
	}
	for what, p := range wrong() {
		for _, place := range []int{-1, 0, 63, 64} {
			for _, by := range []int{-1, 0, 1, 2} {
				refused(what, p, place, by, api.ErrState)
			}
		}
	}
	for _, place := range append(strange(), -1, 64, 65, 1000) {
		for _, by := range append(strange(), -1, 0, 1, 2) {
			refused("the beginning", chess.New(), place, by, api.ErrRange)
		}
	}
	for place := range 64 {
		for _, by := range append(strange(), -1, 2, 3, 6) {
			refused("the beginning", chess.New(), place, by, api.ErrRange)
		}
	}
}

func TestCheck(t *testing.T) {
	for _, c := range []struct {
		what string
		p    api.Chess
		want bool
	}{
		{"the beginning", chess.New(), false},
		{"kings alone", of(0, "Ka1 ka8"), false},
		{"kings as near as can be", of(1, "Kd4 kd6"), false},
		{"a rook", of(0, "Ka1 kh8 ra5"), true},
		{"a rook, of white", of(1, "Ka1 kh8 Rb8"), true},
		{"an own rook", of(0, "Ka1 kh8 Ra5"), false},
		{"a piece between", of(0, "Ka1 kh8 ra5 Pa2"), false},
		{"a piece of the other between", of(0, "Ka1 kh8 ra5 na2"), false},
		{"a bishop", of(0, "Ka1 kg8 bh8"), true},
		{"a queen", of(1, "Ka1 kh8 Qd4"), true},
		{"a knight", of(0, "Ka1 kh8 nc2"), true},
		{"a pawn of black", of(0, "Kd4 kh8 pe5"), true},
		{"a pawn of black, from below", of(0, "Kd4 kh8 pe3"), false},
		{"a pawn of white", of(1, "Ka1 kd5 Pe4"), true},
		{"a pawn of white, from above", of(1, "Ka1 kd5 Pe6"), false},
		{"a pawn straight ahead", of(0, "Kd4 kh8 pd5"), false},
		{"two at once", of(0, "Ka1 kh8 ra5 nc2"), true},
		{"mate", of(1, "Kb6 Rh8 kb8"), true},
		{"a pawn on the seventh rank", of(1, "Kb6 Ra7 kb8 Pc7"), true},
		{"stalemate", of(1, "Kf7 Qg6 kh8"), false},
	} {
		if check, e := chess.Check(c.p); check != c.want || e != api.OK {
			t.Errorf("%s: %v, %d; want %v", c.what, check, e, c.want)
		}
		if check, e := chess.Check(mirrored(c.p)); check != c.want || e != api.OK {
			t.Errorf("%s, mirrored: %v, %d; want %v", c.what, check, e, c.want)
		}
	}
}

func TestCheckOfMany(t *testing.T) {
	d := die(155)
	checks := 0
	for range 5000 {
		p := d.drawn()
		king := slices.Index(p.Places, 6-12*p.Turn)
		want := len(plainAttackers(p, king, 1-p.Turn)) > 0
		if check, e := chess.Check(p); check != want || e != api.OK {
			t.Fatalf("Check(%v) = %v, %d; want %v", p, check, e, want)
		}
		if want {
			checks++
		}
	}
	if checks < 300 || checks > 4700 {
		t.Errorf("%d checks", checks)
	}
}

func TestMaterial(t *testing.T) {
	for _, c := range []struct {
		what   string
		pieces string
		want   int
		dead   bool
	}{
		{"kings alone", "Ka1 kh8", 0, true},
		{"a pawn", "Ka1 kh8 Pd4", 1, false},
		{"a knight", "Ka1 kh8 Nd4", 3, true},
		{"a bishop", "Ka1 kh8 Bd2", 3, true},
		{"a rook", "Ka1 kh8 Rd4", 5, false},
		{"a queen", "Ka1 kh8 Qd3", 9, false},
		{"a pawn of black", "Ka1 kh8 pd4", -1, false},
		{"a knight of black", "Ka1 kh8 nd4", -3, true},
		{"a bishop of black", "Ka1 kh8 bd2", -3, true},
		{"a rook of black", "Ka1 kh8 rd4", -5, false},
		{"a queen of black", "Ka1 kh8 qd3", -9, false},
		{"two knights", "Ka1 kh8 Nd4 Ne4", 6, false},
		{"a knight each", "Ka1 kh8 Nd4 ne4", 0, false},
		{"a knight and a bishop", "Ka1 kh8 Nd4 Be2", 6, false},
		{"a knight against a bishop", "Ka1 kh8 Nd4 be2", 0, false},
		{"bishops on one colour", "Ka1 kh8 Bc1 Bd2", 6, true},
		{"a bishop each on one colour", "Ka1 kh8 Bc1 bf8", 0, true},
		{"a bishop each on one colour, the other", "Ka1 kh8 Bf1 bc8", 0, true},
		{"a bishop each, not on one colour", "Ka1 kh8 Bc1 bc8", 0, false},
		{"two bishops, not on one colour", "Ka1 kh8 bc1 bf1", -6, false},
		{"many bishops on one colour", "Kh1 kb8 Ba1 Bc1 Bg1 bb2 Bd2 ba3 be3", 3, true},
		{"all but one on one colour", "Kh1 kb8 Ba1 Bc1 Bg1 bb2 Bd2 ba3 bf3", 3, false},
		{"bishops on one colour, and a knight", "Ka1 kh8 Bc1 Bd2 ng2", 3, false},
		{"bishops on one colour, and a pawn", "Ka1 kh8 Bc1 Bd2 pg3", 5, false},
		{"a bishop and a rook", "Ka1 kh8 Bc1 rd2", -2, false},
		{"a bishop and a queen", "Ka1 kh8 Bc1 qd3", -6, false},
		{"all kinds", "Ka1 kh8 Pa2 Pb2 Nc2 Bd2 Re2 qf2 rg2 ph2", -2, false},
	} {
		p := of(0, c.pieces)
		if !chess.May(p) {
			p.Turn = 1
		}
		if sum, dead, e := chess.Material(p); sum != c.want || dead != c.dead || e != api.OK {
			t.Errorf("%s: %d, %v, %d; want %d, %v", c.what, sum, dead, e, c.want, c.dead)
		}
		if sum, dead, e := chess.Material(mirrored(p)); sum != -c.want || dead != c.dead || e != api.OK {
			t.Errorf("%s, mirrored: %d, %v, %d; want %d, %v", c.what, sum, dead, e, -c.want, c.dead)
		}
	}
	if sum, dead, e := chess.Material(chess.New()); sum != 0 || dead || e != api.OK {
		t.Errorf("the beginning: %d, %v, %d", sum, dead, e)
	}
	if sum, dead, e := chess.Material(fine()["62 queens of the other"]); sum != -9*62 || dead || e != api.OK {
		t.Errorf("62 queens: %d, %v, %d", sum, dead, e)
	}
}

func TestMaterialOfMany(t *testing.T) {
	d := die(156)
	deads := 0
	for range 5000 {
		p := d.drawn()
		want, wantDead := plainMaterial(p)
		if sum, dead, e := chess.Material(p); sum != want || dead != wantDead || e != api.OK {
			t.Fatalf("Material(%v) = %d, %v, %d; want %d, %v", p, sum, dead, e, want, wantDead)
		}
		if wantDead {
			deads++
		}
	}
	if deads < 200 || deads > 4800 {
		t.Errorf("%d are dead", deads)
	}
}

// Bishops on all pairs of places.
func TestMaterialOfTwoBishops(t *testing.T) {
	for first := range 64 {
		for second := range first {
			p := of(0, "Ka1 kh8")
			if p.Places[first] != 0 || p.Places[second] != 0 {
				p = of(0, "Kh1 ka8")
			}
			if p.Places[first] != 0 || p.Places[second] != 0 {
				p = of(0, "Kd1 kd8")
			}
			p = with(with(p, first, 3), second, -3)
			if !chess.May(p) {
				p.Turn = 1
			}
			if !chess.May(p) {
				continue
			}
			_, want := plainMaterial(p)
			if sum, dead, e := chess.Material(p); sum != 0 || dead != want || e != api.OK {
				t.Errorf("Material(%v) = %d, %v, %d; want %v", p, sum, dead, e, want)
			}
		}
	}
}

func TestCheckAndMaterialRefuse(t *testing.T) {
	for what, p := range wrong() {
		if check, e := chess.Check(p); check || e != api.ErrState {
			t.Errorf("Check of %s: %v, %d", what, check, e)
		}
		if sum, dead, e := chess.Material(p); sum != 0 || dead || e != api.ErrState {
			t.Errorf("Material of %s: %d, %v, %d", what, sum, dead, e)
		}
	}
}

// What holds everywhere.

func ask(p api.Chess) string {
	may := chess.May(p)
	text, e := chess.Show(p)
	l, f := chess.Attackers(p, 20, 0)
	m, g := chess.Attackers(p, 40, 1)
	check, h := chess.Check(p)
	sum, dead, i := chess.Material(p)
	return fmt.Sprint(may, text, e, l, f, m, g, check, h, sum, dead, i)
}

func TestListsAreLeftAlone(t *testing.T) {
	d := die(157)
	look := func(p api.Chess) {
		before := slices.Clone(p.Places)
		p.Places = roomy(p.Places)
		ask(p)
		untouched(t, "a call", p.Places, before)
	}
	for range 300 {
		look(d.drawn())
		look(d.spoiled(d.anything()))
	}
	for _, p := range wrong() {
		look(p)
	}
}

// A position that is changed while it is looked at, and then put right, is seen by others that look at it meanwhile.
func TestManyLookAtOnePosition(t *testing.T) {
	p := withCastle(of(0, unmoved+" Qd4 qe4 Na3 nf6 Bc5 Pa5 pb5"), 15)
	p.EnPassant = at("b6")
	all := func() string {
		begin := chess.New()
		q, e := chess.Read("r3k2r/8/8/Pp6/8/8/8/R3K2R w KQkq b6 0 2")
		return fmt.Sprint(ask(p), begin, q, e, p)
	}
	want := all()
	var told [8]string
	var group sync.WaitGroup
	for i := range told {
		group.Go(func() { told[i] = all() + all() })
	}
	group.Wait()
	for _, text := range told {
		if text != want+want {
			t.Fatalf("told %s; want %s twice", text, want)
		}
	}
}

func TestAnswersAreNew(t *testing.T) {
	p := chess.New()
	all := func() string {
		begin := chess.New()
		q, _ := chess.Read("r3k2r/8/8/Pp6/8/8/8/R3K2R w KQkq b6 0 2")
		l, _ := chess.Attackers(p, at("f3"), 0)
		none, _ := chess.Attackers(p, at("e5"), 0)
		told := fmt.Sprint(begin, q, l, len(none))
		scribble(begin.Places)
		scribble(q.Places)
		scribble(l)
		scribble(none)
		return told
	}
	if a, b := all(), all(); a != b {
		t.Errorf("asked again: %s, then %s", a, b)
	}
	if !same(p, chess.New()) {
		t.Errorf("an answer shares what was handed in: %v", p)
	}
}
