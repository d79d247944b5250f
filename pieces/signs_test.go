package pieces_test

import (
	"strings"
	"testing"

	"gameroom/api"
	"gameroom/pieces"
)

func TestLetters(t *testing.T) {
	const signs = "PNBRQKpnbrqk"
	for i, piece := range []int{1, 2, 3, 4, 5, 6, -1, -2, -3, -4, -5, -6} {
		letter := rune(signs[i])
		if told, back := pieces.Letter(piece), pieces.ByLetter(letter); told != letter || back != piece {
			t.Errorf("piece %d: %c; letter %c: %d", piece, told, letter, back)
		}
	}
	for sign := range rune(1 << 16) {
		if piece := pieces.ByLetter(sign); (piece != 0) != strings.ContainsRune(signs, sign) {
			t.Errorf("letter %c: %d", sign, piece)
		}
	}
}

func TestPictures(t *testing.T) {
	pictures := map[rune]int{
		'♙': api.Pawn, '♘': api.Knight, '♗': api.Bishop, '♖': api.Rook, '♕': api.Queen, '♔': api.King,
		'♟': -api.Pawn, '♞': -api.Knight, '♝': -api.Bishop, '♜': -api.Rook, '♛': -api.Queen, '♚': -api.King,
	}
	for sign := range rune(1 << 16) {
		if piece := pieces.ByPicture(sign); piece != pictures[sign] {
			t.Errorf("picture %c: %d; want %d", sign, piece, pictures[sign])
		}
	}
}

func TestPlaceTexts(t *testing.T) {
	for place := range pieces.Places {
		file, rank := pieces.FileText(place), pieces.RankText(place)
		if name := pieces.PlaceText(place); name != file+rank || at(name) != place {
			t.Errorf("place %d: %s, %s and %s", place, name, file, rank)
		}
	}
}

func TestReadNumber(t *testing.T) {
	for _, c := range []struct {
		word string
		want int
	}{{"0", 0}, {"1", 1}, {"9", 9}, {"10", 10}, {"99", 99}, {"100", 100}, {"999", 999}} {
		if n, ok := pieces.ReadNumber(c.word); n != c.want || !ok {
			t.Errorf("ReadNumber(%q) = %d, %v", c.word, n, ok)
		}
	}
	for _, word := range []string{"", " ", "00", "01", "007", "1000", "-1", "-0", "+1", "1 ", " 1", "1.", "1_0", "x", "٣", "99999999999999999999"} {
		if n, ok := pieces.ReadNumber(word); ok {
			t.Errorf("ReadNumber(%q) = %d", word, n)
		}
	}
}
