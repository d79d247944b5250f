package pieces

import "strconv"

// Signs of pieces, in the order of their kinds.
const (
	whiteLetters  = "PNBRQK"
	blackLetters  = "pnbrqk"
	whitePictures = "♙♘♗♖♕♔"
	blackPictures = "♟♞♝♜♛♚"
)

// Signs of files and ranks, each in order.
const (
	fileLetters = "abcdefgh"
	rankDigits  = "12345678"
)

// Letter of a piece.
func Letter(piece int) rune {
	if piece > 0 {
		return rune(whiteLetters[piece-1])
	}
	return rune(blackLetters[-piece-1])
}

// ByLetter: the piece that a letter tells; 0: there is none.
func ByLetter(sign rune) int {
	return kindAmong(sign, whiteLetters) - kindAmong(sign, blackLetters)
}

// ByPicture: the piece that a picture tells; 0: there is none.
func ByPicture(sign rune) int {
	return kindAmong(sign, whitePictures) - kindAmong(sign, blackPictures)
}

// kindAmong: which kind a sign tells in a text of signs, or 0.
func kindAmong(sign rune, signs string) int {
	kind := 0
	for _, s := range signs {
		kind++
		if s == sign {
			return kind
		}
	}
	return 0
}

// FileText: the letter of a place's file.
func FileText(place int) string { return fileLetters[place%Wide : place%Wide+1] }

// RankText: the digit of a place's rank.
func RankText(place int) string { return rankDigits[place/Wide : place/Wide+1] }

// PlaceText of a place.
func PlaceText(place int) string { return FileText(place) + RankText(place) }

// ReadNumber of one digit to three. Told again it is the same text, unless there was a sign or a 0 too many.
func ReadNumber(word string) (int, bool) {
	n, err := strconv.Atoi(word)
	return n, err == nil && n >= 0 && n <= MostNumber && strconv.Itoa(n) == word
}
