package chess

import (
	"strconv"
	"strings"

	"gameroom/api"
	"gameroom/pieces"
)

// Each in the order of the numbers that they tell.
const (
	sideLetters   = "wb"
	castleLetters = "KQkq"
	gapDigits     = "12345678" // from 1 on
)

const (
	betweenWords = " "
	betweenRanks = "/"
	noneSign     = "-"
	wordsInText  = 6
)

// shown: a position that may be, as a text.
func shown(p api.Chess) string {
	words := [wordsInText]string{
		placesText(p.Places),
		sideLetters[p.Turn : p.Turn+1],
		castleText(p.Castle),
		placeText(p.EnPassant),
		strconv.Itoa(p.Half),
		strconv.Itoa(p.Full),
	}
	return strings.Join(words[:], betweenWords)
}

// read a text of that form, whether such a position may be or not.
func read(text string) (api.Chess, bool) {
	words := strings.SplitN(text, betweenWords, wordsInText+1)
	if len(words) != wordsInText {
		return api.Chess{}, false
	}
	l, okPlaces := readPlaces(words[0])
	turn, okTurn := readSide(words[1])
	castle, okCastle := readCastle(words[2])
	passed, okPassed := readPlace(words[3])
	half, okHalf := pieces.ReadNumber(words[4])
	full, okFull := pieces.ReadNumber(words[5])
	p := api.Chess{Places: l, Turn: turn, Castle: castle, EnPassant: passed, Half: half, Full: full}
	return p, okPlaces && okTurn && okCastle && okPassed && okHalf && okFull
}

// placesText: the ranks from the eighth down.
func placesText(l []int) string {
	var texts [wide]string
	for rank := range wide {
		texts[wide-1-rank] = rankText(l[rank*wide : (rank+1)*wide])
	}
	return strings.Join(texts[:], betweenRanks)
}

func readPlaces(word string) ([]int, bool) {
	texts := strings.SplitN(word, betweenRanks, wide+1)
	if len(texts) != wide {
		return nil, false
	}
	l := make([]int, places)
	for i, text := range texts {
		row, ok := readRank(text)
		if !ok {
			return nil, false
		}
		copy(l[(wide-1-i)*wide:], row[:])
	}
	return l, true
}

func rankText(row []int) string {
	var text strings.Builder
	gap := 0
	endGap := func() {
		if gap > 0 {
			text.WriteString(strconv.Itoa(gap))
		}
		gap = 0
	}
	for _, piece := range row {
		if piece == 0 {
			gap++
			continue
		}
		endGap()
		text.WriteRune(pieces.Letter(piece))
	}
	endGap()
	return text.String()
}

func readRank(text string) ([wide]int, bool) {
	var row [wide]int
	file := 0
	for _, sign := range text {
		piece, long := toldBy(sign)
		if long == 0 || file+long > wide {
			return row, false
		}
		row[file] = piece
		file += long
	}
	return row, file == wide
}

// toldBy a sign of a rank: a piece, or a gap, and how many places it takes: none, if there is no such sign.
func toldBy(sign rune) (piece, long int) {
	if gap := strings.IndexRune(gapDigits, sign) + 1; gap > 0 {
		return 0, gap
	}
	if piece = pieceBy(sign); piece != 0 {
		return piece, 1
	}
	return 0, 0
}

// pieceBy a letter or picture; 0: there is none.
func pieceBy(sign rune) int {
	return pieces.ByLetter(sign) + pieces.ByPicture(sign)
}

func readSide(word string) (int, bool) {
	side := strings.Index(sideLetters, word)
	return side, side >= 0 && len(word) == 1
}

func castleText(rights int) string {
	var text strings.Builder
	for i := range len(castleLetters) {
		if rights&(1<<i) != 0 {
			text.WriteByte(castleLetters[i])
		}
	}
	if text.Len() == 0 {
		return noneSign
	}
	return text.String()
}

func readCastle(word string) (int, bool) {
	for rights := range allRights + 1 {
		if castleText(rights) == word {
			return rights, true
		}
	}
	return 0, false
}

func placeText(place int) string {
	if place == pieces.Nowhere {
		return noneSign
	}
	return pieces.PlaceText(place)
}

func readPlace(word string) (int, bool) {
	for place := pieces.Nowhere; place < places; place++ {
		if placeText(place) == word {
			return place, true
		}
	}
	return 0, false
}
