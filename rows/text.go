package rows

import (
	"iter"
	"strings"

	"gameroom/api"
	"gameroom/grids"
)

// Read a board.
func Read(text string) (api.Grid, api.Errno) {
	var g api.Grid
	for line := range lines(text) {
		row, ok := rowOf(line)
		if !ok || g.H == api.MaxWide || g.H > 0 && len(row) != g.W {
			return api.Grid{}, api.ErrForm
		}
		g.W = len(row)
		g.H++
		g.Cells = append(g.Cells, row...)
	}
	if !May(g) {
		return api.Grid{}, api.ErrForm
	}
	return g, api.OK
}

// Show a board.
func Show(g api.Grid) (string, api.Errno) {
	if !May(g) {
		return "", api.ErrState
	}
	var text strings.Builder
	for place, sign := range g.Cells {
		text.WriteRune(letterOf(sign))
		if (place+1)%g.W == 0 {
			text.WriteByte('\n')
		}
	}
	return text.String(), api.OK
}

// lines yields the lines of a text; behind its last line feed there is one only if something stands there.
func lines(text string) iter.Seq[string] {
	return func(yield func(string) bool) {
		for rest := text; rest != ""; {
			line, behind, _ := strings.Cut(rest, "\n")
			if !yield(line) {
				return
			}
			rest = behind
		}
	}
}

// rowOf a line; it stops where the line is too long, however much follows.
func rowOf(line string) ([]int, bool) {
	var row []int
	for _, letter := range line {
		sign, ok := signOf(letter)
		if !ok || len(row) == api.MaxWide {
			return nil, false
		}
		row = append(row, sign)
	}
	return row, true
}

func signOf(letter rune) (int, bool) {
	switch letter {
	case '.':
		return grids.Nobody, true
	case 'X', '×':
		return grids.First, true
	case 'O', '○':
		return grids.Second, true
	}
	return grids.Nobody, false
}

func letterOf(sign int) rune {
	switch sign {
	case grids.First:
		return 'X'
	case grids.Second:
		return 'O'
	}
	return '.'
}
