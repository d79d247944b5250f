package notation

import (
	"slices"
	"strconv"
	"strings"

	"gameroom/api"
	"gameroom/chess"
	"gameroom/moves"
	"gameroom/pieces"
)

// Signs of moves.
const (
	shortCastling = "O-O"
	longCastling  = "O-O-O"
	takesSign     = "x"
	becomesSign   = "="
	checkSign     = "+"
	mateSign      = "#"
)

// How many places farther on the king comes to by castling; it never goes so far else.
const (
	shortWay = 2
	longWay  = -2
)

// scribe of a position: writes what may be done there.
type scribe struct {
	api.Chess
	can []api.Move
}

func scribeOf(p api.Chess) (scribe, api.Errno) {
	l, e := moves.All(p)
	return scribe{p, l}, e
}

// may a move be made?
func (s scribe) may(m api.Move) bool { return slices.Contains(s.can, m) }

// after a move that may be made.
func (s scribe) after(m api.Move) scribe {
	p, _ := moves.Do(s.Chess, m)
	next, _ := scribeOf(p)
	return next
}

// word of a move that may be made.
func (s scribe) word(m api.Move) string { return s.bare(m) + s.sign(m) }

// find the move that a word tells; what it does to the other king may be left out.
func (s scribe) find(word string) (api.Move, bool) {
	letters := inLetters(word)
	for _, m := range s.can {
		rest, ok := strings.CutPrefix(letters, s.bare(m))
		if ok && (rest == "" || rest == s.sign(m)) {
			return m, true
		}
	}
	return api.Move{}, false
}

// sign of what a move does to the other king.
func (s scribe) sign(m api.Move) string {
	next := s.after(m)
	check, _ := chess.Check(next.Chess)
	switch {
	case check && len(next.can) == 0:
		return mateSign
	case check:
		return checkSign
	}
	return ""
}

// bare word of a move: without that sign.
func (s scribe) bare(m api.Move) string {
	if word := s.castling(m); word != "" {
		return word
	}
	word := s.mover(m)
	if s.takes(m) {
		word += takesSign
	}
	word += pieces.PlaceText(m.To)
	if m.Into != 0 {
		word += becomesSign + letter(m.Into)
	}
	return word
}

// castling as a word; of another move nothing.
func (s scribe) castling(m api.Move) string {
	if s.kindOn(m.From) != api.King {
		return ""
	}
	switch m.To - m.From {
	case shortWay:
		return shortCastling
	case longWay:
		return longCastling
	}
	return ""
}

// mover: which piece moves. A pawn is told by its file alone, just where it takes.
func (s scribe) mover(m api.Move) string {
	if kind := s.kindOn(m.From); kind != api.Pawn {
		return letter(kind) + s.origin(m)
	}
	if s.takes(m) {
		return pieces.FileText(m.From)
	}
	return ""
}

// origin: what of a piece's place tells it from its rivals.
func (s scribe) origin(m api.Move) string {
	rivals := s.rivals(m)
	file, rank := pieces.FileText(m.From), pieces.RankText(m.From)
	inFile := func(place int) bool { return pieces.FileText(place) == file }
	inRank := func(place int) bool { return pieces.RankText(place) == rank }
	switch {
	case len(rivals) == 0:
		return ""
	case !slices.ContainsFunc(rivals, inFile):
		return file
	case !slices.ContainsFunc(rivals, inRank):
		return rank
	}
	return file + rank
}

// rivals: where other pieces of the mover's kind stand that may come to the same place.
func (s scribe) rivals(m api.Move) []int {
	var l []int
	for _, other := range s.can {
		if other.To == m.To && other.From != m.From && s.kindOn(other.From) == s.kindOn(m.From) {
			l = append(l, other.From)
		}
	}
	return l
}

// takes: is something taken? What went over EnPassant is taken by a pawn that comes there.
func (s scribe) takes(m api.Move) bool {
	return s.Places[m.To] != 0 || s.kindOn(m.From) == api.Pawn && m.To == s.EnPassant
}

func (s scribe) kindOn(place int) int { return pieces.Kind(s.Places[place]) }

// number of the next move, with its dots.
func (s scribe) number() string {
	dots := whiteDots
	if s.Turn == api.Black {
		dots = blackDots
	}
	return strconv.Itoa(s.Full) + dots
}

// letter of a kind of piece, whoever's it is.
func letter(kind int) string { return string(pieces.Letter(kind)) }
