package notation

import (
	"strings"

	"gameroom/pieces"
)

const betweenWords = " "

// Behind a move's number, by who is to move.
const (
	whiteDots = "."
	blackDots = "..."
)

// wordsOf a text.
func wordsOf(text string) []string {
	return strings.FieldsFunc(text, func(sign rune) bool {
		return sign == '\t' || sign == '\n' || sign == '\r' || sign == ' '
	})
}

// inLetters: a word with the letters for which it has other signs.
func inLetters(word string) string {
	return strings.Map(func(sign rune) rune {
		if sign == '0' {
			return 'O'
		}
		if piece := pieces.ByPicture(sign); piece != 0 {
			return pieces.Letter(pieces.Kind(piece))
		}
		return sign
	}, word)
}

// isNumber: is it a move's number, with its dots?
func isNumber(word string) bool {
	digits := strings.TrimRight(word, whiteDots)
	_, ok := pieces.ReadNumber(digits)
	dots := word[len(digits):]
	return ok && (dots == whiteDots || dots == blackDots)
}

// isResult of a game?
func isResult(word string) bool {
	switch word {
	case "1-0", "0-1", "1/2-1/2", "*":
		return true
	}
	return false
}
