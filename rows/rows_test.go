package rows_test

import (
	"fmt"
	"maps"
	"math"
	"slices"
	"strings"
	"sync"
	"testing"
	"unicode/utf8"

	"gameroom/api"
	"gameroom/rows"
)

const spare = -77

// roomy gives a list with spare room, so that a call that writes behind its end is found out.
func roomy(l []int) []int {
	r := make([]int, len(l)+8)
	copy(r, l)
	for i := len(l); i < len(r); i++ {
		r[i] = spare
	}
	return r[:len(l)]
}

func untouched(t *testing.T, what string, l, before []int) {
	t.Helper()
	if !slices.Equal(l, before) {
		t.Errorf("%s changed what was handed in: %v, was %v", what, l, before)
	}
	for _, x := range l[len(l):cap(l)] {
		if x != spare {
			t.Errorf("%s wrote into the spare room of what was handed in", what)
			return
		}
	}
}

// scribble overwrites a list and its spare room.
func scribble(l []int) {
	l = l[:cap(l)]
	for i := range l {
		l[i] = spare
	}
}

// die gives numbers that look drawn, the same each time.
type die uint64

func (d *die) below(n int) int {
	*d = *d*6364136223846793005 + 1442695040888963407
	return int(uint64(*d>>33) % uint64(n))
}

// drawn board of any size, with few signs or many.
func (d *die) drawn() api.Grid {
	return d.sized(1+d.below(api.MaxWide), 1+d.below(api.MaxWide))
}

func (d *die) sized(w, h int) api.Grid {
	g := blank(w, h)
	kinds := [][]int{{0, 1, 2}, {1, 2}, {0, 1, 1, 1}, {0, 2, 2, 2, 2}, {1, 1, 1, 2}, {0}}[d.below(6)]
	for i := range g.Cells {
		g.Cells[i] = kinds[d.below(len(kinds))]
	}
	return g
}

// fair board of a size: by turns, with so many places empty.
func (d *die) fair(w, h, empty int) api.Grid {
	g := blank(w, h)
	order := make([]int, w*h)
	for i := range order {
		j := d.below(i + 1)
		order[i], order[j] = order[j], i
	}
	for i, place := range order[empty:] {
		g.Cells[place] = 1 + i%2
	}
	return g
}

func blank(w, h int) api.Grid { return api.Grid{W: w, H: h, Cells: make([]int, w*h)} }

func board(w, h int, cells ...int) api.Grid { return api.Grid{W: w, H: h, Cells: cells} }

// of rows, told as texts.
func of(t *testing.T, lines ...string) api.Grid {
	t.Helper()
	g := api.Grid{H: len(lines), W: len(lines[0])}
	for _, line := range lines {
		if len(line) != g.W {
			t.Fatalf("lines of unlike lengths: %q", lines)
		}
		for i := range len(line) {
			g.Cells = append(g.Cells, strings.IndexByte(".XO", line[i]))
		}
	}
	return g
}

func same(a, b api.Grid) bool {
	return a.W == b.W && a.H == b.H && slices.Equal(a.Cells, b.Cells)
}

func isZero(g api.Grid) bool { return g.W == 0 && g.H == 0 && len(g.Cells) == 0 }

func clone(g api.Grid) api.Grid {
	g.Cells = slices.Clone(g.Cells)
	return g
}

// wrong boards, of each kind of fault.
func wrong() map[string]api.Grid {
	return map[string]api.Grid{
		"nothing":                   {},
		"no columns":                board(0, 1),
		"no rows":                   board(1, 0),
		"eleven columns":            blank(11, 1),
		"eleven rows":               blank(1, 11),
		"eleven of both":            blank(11, 11),
		"columns below 0":           {W: -1, H: 1, Cells: []int{0}},
		"both sides below 0":        {W: -2, H: -2, Cells: make([]int, 4)},
		"sides whose product wraps": {W: 1 << 32, H: 1 << 32},
		"sides that wrap to one":    {W: math.MaxInt, H: math.MaxInt, Cells: []int{0}},
		"the least sides":           {W: math.MinInt, H: math.MinInt},
		"a column of a great width": {W: math.MaxInt, H: 1, Cells: []int{0}},
		"no numbers":                {W: 3, H: 3},
		"a number short":            {W: 3, H: 3, Cells: make([]int, 8)},
		"a number too many":         {W: 3, H: 3, Cells: make([]int, 10)},
		"very many numbers":         {W: 3, H: 3, Cells: make([]int, 1<<16)},
		"a number below 0":          board(2, 1, -1, 0),
		"a 3":                       board(2, 1, 0, 3),
		"a 3 at the end":            board(2, 2, 0, 1, 2, 3),
		"the greatest number":       board(1, 1, math.MaxInt),
		"the least number":          board(1, 1, math.MinInt),
		"the letter of a sign":      board(1, 1, 'X'),
	}
}

// P9.1

func TestMay(t *testing.T) {
	for w := -1; w <= 13; w++ {
		for h := -1; h <= 13; h++ {
			g := api.Grid{W: w, H: h}
			if w > 0 && h > 0 {
				g = blank(w, h)
			}
			want := w >= 1 && w <= 10 && h >= 1 && h <= 10
			if rows.May(g) != want {
				t.Errorf("May of %d and %d: %v", w, h, !want)
			}
		}
	}
	for what, g := range wrong() {
		if rows.May(g) {
			t.Errorf("May takes %s", what)
		}
	}
	// Neither turns nor rows are asked for.
	for _, g := range []api.Grid{board(1, 1, 2), board(3, 1, 1, 1, 1), board(3, 2, 1, 1, 1, 2, 2, 2), board(2, 5, 0, 1, 2, 0, 1, 2, 0, 1, 2, 0)} {
		if !rows.May(g) {
			t.Errorf("May refuses %v", g)
		}
	}
}

func TestShow(t *testing.T) {
	for _, c := range []struct {
		g    api.Grid
		want string
	}{
		{board(1, 1, 0), ".\n"},
		{board(1, 1, 1), "X\n"},
		{board(1, 1, 2), "O\n"},
		{board(3, 1, 0, 1, 2), ".XO\n"},
		{board(1, 3, 0, 1, 2), ".\nX\nO\n"},
		{board(3, 2, 1, 2, 0, 0, 2, 1), "XO.\n.OX\n"},
		{board(2, 3, 1, 2, 0, 0, 2, 1), "XO\n..\nOX\n"},
		{blank(10, 10), strings.Repeat("..........\n", 10)},
	} {
		if text, e := rows.Show(c.g); text != c.want || e != api.OK {
			t.Errorf("Show(%v) = %q, %d; want %q", c.g, text, e, c.want)
		}
	}
	for what, g := range wrong() {
		if text, e := rows.Show(g); text != "" || e != api.ErrState {
			t.Errorf("Show of %s: %q, %d", what, text, e)
		}
	}
}

func TestRead(t *testing.T) {
	for _, c := range []struct {
		text string
		want api.Grid
	}{
		{".", board(1, 1, 0)},
		{"X", board(1, 1, 1)},
		{"O\n", board(1, 1, 2)},
		{"×", board(1, 1, 1)},
		{"○\n", board(1, 1, 2)},
		{"XO.\n.OX\n", board(3, 2, 1, 2, 0, 0, 2, 1)},
		{"XO.\n.OX", board(3, 2, 1, 2, 0, 0, 2, 1)},
		{"×○.\n.○×", board(3, 2, 1, 2, 0, 0, 2, 1)},
		{"X○.\n.O×\n", board(3, 2, 1, 2, 0, 0, 2, 1)}, // signs of both kinds, lines of unlike bytes
		{".\nX\n○", board(1, 3, 0, 1, 2)},
		{"×○×○×○×○×○", board(10, 1, 1, 2, 1, 2, 1, 2, 1, 2, 1, 2)}, // more than ten bytes
		{strings.Repeat("O\n", 10), board(1, 10, 2, 2, 2, 2, 2, 2, 2, 2, 2, 2)},
		{strings.Repeat("○\n", 9) + "O", board(1, 10, 2, 2, 2, 2, 2, 2, 2, 2, 2, 2)},
	} {
		if g, e := rows.Read(c.text); !same(g, c.want) || e != api.OK {
			t.Errorf("Read(%q) = %v, %d; want %v", c.text, g, e, c.want)
		}
	}
}

func TestReadRefuses(t *testing.T) {
	for _, text := range []string{
		"", "\n", "\n\n", "\nX", "\nX\n", "X\n\n", "X\n\nX", "X\n\n\n", "X\nO\n\n",
		"x", "o", "0", "1", "2", "*", "-", "_", " ", "X ", " X", "X O", "X\t", "X,O",
		"\r", "X\r\n", "X\rO", "X\r\nO\r\n", "X\x00", "X\v", "X\u0085O", "X\u2028O",
		"XO\nX", "X\nXO", "XO\nX\n", "XO\nXO\nXOX\n", "XO\n×\n", "XO\n○", "...\n..\n....\n",
		"...........", "×××××××××××", "X..........\n", strings.Repeat("...........\n", 11),
		strings.Repeat(".\n", 11), strings.Repeat(".\n", 10) + ".", strings.Repeat(".\n", 10) + "\n",
		"Х", "О", "Χ", "Ο", "✕", "✗", "⨯", "◯", "●", "〇", "·", "․", "…", "X\u0338", "\ufeffX", "X\ufe0f",
		"\xc3", "\x97", "\xd7", "\xe2\x97", "\x97\x8b", "X\xff", "\xffX", "\ufffd", "\xc0\xae", "\xc1\x98",
		"X;", "XO/XO", "X\\nO", "é",
	} {
		if g, e := rows.Read(text); !isZero(g) || e != api.ErrForm {
			t.Errorf("Read(%q) = %v, %d", text, g, e)
		}
	}
}

func TestReadOfLongTexts(t *testing.T) {
	for _, piece := range []string{".", "×", ".\n", "\n", "x", "X.O\n", "\xff"} {
		if g, e := rows.Read(strings.Repeat(piece, 1<<20)); !isZero(g) || e != api.ErrForm {
			t.Errorf("Read of %q again and again: %v, %d", piece, g, e)
		}
	}
}

func TestReadIsShowBack(t *testing.T) {
	d := die(91)
	for w := 1; w <= api.MaxWide; w++ {
		for h := 1; h <= api.MaxWide; h++ {
			for range 5 {
				g := d.sized(w, h)
				text, e := rows.Show(g)
				if e != api.OK || len(text) != (w+1)*h {
					t.Fatalf("Show(%v) = %q, %d", g, text, e)
				}
				for _, told := range []string{text, text[:len(text)-1], strings.ReplaceAll(text, "X", "×"), strings.Replace(text, "O", "○", 1)} {
					if back, e := rows.Read(told); !same(back, g) || e != api.OK {
						t.Fatalf("Read(%q) = %v, %d; want %v", told, back, e, g)
					}
				}
			}
		}
	}
}

// toldSo: is a text a board's, looked at as a whole?
func toldSo(text string) bool {
	lines := strings.Split(strings.TrimSuffix(text, "\n"), "\n")
	w := utf8.RuneCountInString(lines[0])
	for _, line := range lines {
		if utf8.RuneCountInString(line) != w || strings.Trim(line, ".XO×○") != "" {
			return false
		}
	}
	return w >= 1 && w <= 10 && len(lines) <= 10
}

func TestReadOfMany(t *testing.T) {
	d := die(92)
	taken, refused := 0, 0
	for range 100000 {
		var text strings.Builder
		// A line feed comes often and at like distances, so that some texts are boards.
		w, marks := 1+d.below(4), []string{".", "X", "O", "×", "○", "X", "O", ".", ".", "X"}
		if d.below(2) == 0 {
			marks = append(marks, "x", "\n", "\xe2", "")
		}
		for range 1 + d.below(3) {
			for range w {
				text.WriteString(marks[d.below(len(marks))])
			}
			text.WriteString([]string{"\n", "\n", "\n", "\n", "", "\n\n", "\r\n"}[d.below(7)])
		}
		g, e := rows.Read(text.String())
		if !toldSo(text.String()) {
			refused++
			if !isZero(g) || e != api.ErrForm {
				t.Fatalf("Read(%q) = %v, %d", text.String(), g, e)
			}
			continue
		}
		taken++
		plain := strings.NewReplacer("×", "X", "○", "O").Replace(strings.TrimSuffix(text.String(), "\n") + "\n")
		if shown, f := rows.Show(g); shown != plain || e != api.OK || f != api.OK {
			t.Fatalf("Read(%q) = %v, %d; shown as %q", text.String(), g, e, shown)
		}
	}
	if taken < 10000 || refused < 10000 {
		t.Errorf("%d taken, %d refused", taken, refused)
	}
}

// P9.2

func TestWon(t *testing.T) {
	for _, c := range []struct {
		what   string
		g      api.Grid
		k      int
		who    int
		places []int
	}{
		{"nothing there", of(t, "...", "..."), 1, 0, nil},
		{"one is a row", of(t, ".X"), 1, 1, []int{1}},
		{"one of each", of(t, "OX."), 1, 3, []int{0, 1}},
		{"no two", of(t, "X.X", "O.O"), 2, 0, nil},
		{"across", of(t, "...", "OOO"), 3, 2, []int{3, 4, 5}},
		{"down", of(t, ".X.", ".X.", ".X."), 3, 1, []int{1, 4, 7}},
		{"slanting to the right", of(t, "X..", ".X.", "..X"), 3, 1, []int{0, 4, 8}},
		{"slanting to the left", of(t, "..O", ".O.", "O.."), 3, 2, []int{2, 4, 6}},
		{"slanting in a wide board", of(t, ".....", "..X..", "...X."), 2, 1, []int{7, 13}},
		{"both, in one direction", of(t, "XXX", "...", "OOO"), 3, 3, []int{0, 1, 2, 6, 7, 8}},
		{"both, in two directions", of(t, "XO.", "XO.", "XOO"), 2, 3, []int{0, 1, 3, 4, 6, 7, 8}},
		{"more than k", of(t, ".XXXX."), 3, 1, []int{1, 2, 3, 4}},
		{"more than twice k", of(t, "OOOOOOO"), 3, 2, []int{0, 1, 2, 3, 4, 5, 6}},
		{"a gap", of(t, "XXXX.X"), 3, 1, []int{0, 1, 2, 3}},
		{"another between", of(t, "XXOXX"), 3, 0, nil},
		{"one less than k", of(t, "XXX.", "...."), 4, 0, nil},
		{"no row goes on in the next line", of(t, ".XX", "X.."), 3, 0, nil},
		{"nor upwards", of(t, "..X", "X..", ".X."), 3, 0, nil},
		{"nor slanting, to the right", of(t, "..X", "...", "X.."), 2, 0, nil},
		{"nor slanting, over the border", of(t, ".X..", "..X.", "...X", "X..."), 4, 0, nil},
		{"crossing", of(t, ".X.", "XXX", ".X."), 3, 1, []int{1, 3, 4, 5, 7}},
		{"a corner", of(t, "XXX", "X..", "X.O"), 3, 1, []int{0, 1, 2, 3, 6}},
		{"a sign beside the row is not in it", of(t, "XXX", ".X."), 3, 1, []int{0, 1, 2}},
		{"greater than the board", of(t, "XX", "XX"), 3, 0, nil},
		{"ten", board(1, 10, slices.Repeat([]int{1}, 10)...), 10, 1, []int{0, 1, 2, 3, 4, 5, 6, 7, 8, 9}},
		{"ten are not there", board(9, 1, slices.Repeat([]int{1}, 9)...), 10, 0, nil},
	} {
		who, places, e := rows.Won(c.g, c.k)
		if who != c.who || !slices.Equal(places, c.places) || e != api.OK {
			t.Errorf("%s: %d, %v, %d; want %d, %v", c.what, who, places, e, c.who, c.places)
		}
	}
}

// plainWon looks at all rows of k places that a board has.
func plainWon(g api.Grid, k int) (int, []int) {
	at := map[int]int{}
	for y := range g.H {
		for x := range g.W {
			for _, d := range [][2]int{{1, 0}, {0, 1}, {1, 1}, {1, -1}} {
				row := []int{}
				for i := range k {
					if a, b := x+i*d[0], y+i*d[1]; a < g.W && b < g.H && b >= 0 && g.Cells[b*g.W+a] == g.Cells[y*g.W+x] {
						row = append(row, b*g.W+a)
					}
				}
				if who := g.Cells[y*g.W+x]; who > 0 && len(row) == k {
					for _, place := range row {
						at[place] = who
					}
				}
			}
		}
	}
	who := 0
	for _, sign := range at {
		who |= sign
	}
	return who, slices.Sorted(maps.Keys(at))
}

func TestWonOfMany(t *testing.T) {
	d := die(93)
	var seen [4]int
	for range 20000 {
		g, k := d.drawn(), 1+d.below(5)
		if d.below(10) == 0 {
			k = 1 + d.below(api.MaxWide)
		}
		who, places, e := rows.Won(g, k)
		want, at := plainWon(g, k)
		if who != want || !slices.Equal(places, at) || e != api.OK {
			t.Fatalf("Won(%v, %d) = %d, %v, %d; want %d, %v", g, k, who, places, e, want, at)
		}
		seen[who]++
	}
	if slices.Min(seen[:]) < 1000 {
		t.Errorf("too few of a kind: %v", seen)
	}
}

func TestWonRefuses(t *testing.T) {
	for what, g := range wrong() {
		for _, k := range []int{-1, 0, 1, 3, 10, 11} {
			if who, places, e := rows.Won(g, k); who != 0 || len(places) != 0 || e != api.ErrState {
				t.Errorf("Won of %s, %d: %d, %v, %d", what, k, who, places, e)
			}
		}
	}
	for _, k := range []int{0, -1, 11, math.MaxInt, math.MinInt, 1 << 32} {
		if who, places, e := rows.Won(board(2, 2, 1, 1, 2, 2), k); who != 0 || len(places) != 0 || e != api.ErrRange {
			t.Errorf("Won with %d in a row: %d, %v, %d", k, who, places, e)
		}
	}
}

// P9.3

func TestSolve(t *testing.T) {
	all := []int{0, 1, 2, 3, 4, 5, 6, 7, 8}
	for _, c := range []struct {
		what   string
		g      api.Grid
		k      int
		value  int
		places []int
	}{
		{"the chapter's example", blank(3, 3), 3, 0, all},
		{"against a corner only the middle holds", of(t, "X..", "...", "..."), 3, 0, []int{4}},
		{"against the middle only corners hold", of(t, "...", ".X.", "..."), 3, 0, []int{0, 2, 6, 8}},
		{"against a side", of(t, ".X.", "...", "..."), 3, 0, []int{0, 2, 4, 7}},
		{"the first wins", of(t, "XX.", "OO.", "..."), 3, 1, []int{2}},
		{"the second wins", of(t, "XX.", "OO.", "X.."), 3, 1, []int{5}},
		{"the second is lost, wherever it puts", of(t, "X.X", ".O.", "X.O"), 3, -1, []int{1, 3, 5, 7}},
		{"the last place is a draw", of(t, "XOX", "XOO", "OX."), 3, 0, []int{8}},
		{"the last place wins", of(t, "XOX", "OXO", "OX."), 3, 1, []int{8}},
		{"one in a row", blank(3, 2), 1, 1, []int{0, 1, 2, 3, 4, 5}},
		{"two in a row, from the middle", blank(3, 1), 2, 1, []int{1}},
		{"two in a row of four", blank(4, 1), 2, 1, []int{1, 2}},
		{"two in a row of two", blank(1, 2), 2, 0, []int{0, 1}},
		{"one place", blank(1, 1), 1, 1, []int{0}},
		{"one place, ten in a row", blank(1, 1), 10, 0, []int{0}},
		{"a row longer than the board", blank(9, 1), 10, 0, all},
	} {
		value, places, e := rows.Solve(c.g, c.k)
		if value != c.value || !slices.Equal(places, c.places) || e != api.OK {
			t.Errorf("%s: %d, %v, %d; want %d, %v", c.what, value, places, e, c.value, c.places)
		}
	}
}

func TestSolveOfWhatIsOver(t *testing.T) {
	for _, c := range []struct {
		what  string
		g     api.Grid
		k     int
		value int
	}{
		{"the other's row, the second moves", of(t, "XXX", "OO.", "..."), 3, -1},
		{"the other's row, the first moves", of(t, "OOO", "XX.", "X.."), 3, -1},
		{"its own row, the first moves", of(t, "XXX", "OO.", "O.."), 3, 1},
		{"its own row, the second moves", of(t, "OOO", "XX.", "XX."), 3, 1},
		{"both have one, the first moves", of(t, "XXX", "OOO", "..."), 3, -1},
		{"both have one, the second moves", of(t, "XXX.", "OOO.", "X..."), 3, -1},
		{"a row of one", of(t, "X."), 1, -1},
		{"rows of one of both", of(t, "XO."), 1, -1},
		{"full, nobody, the second moves", of(t, "XOX", "XOO", "OXX"), 3, 0},
		{"full, nobody, the first moves", of(t, "XO"), 2, 0},
		{"full, the other's row", of(t, "XOX", "OXO", "XOX"), 3, -1},
		{"full, its own row, the first moves", of(t, "OXXO"), 2, 1},
		{"full, its own row, the second moves", of(t, "XXOOOXX"), 3, 1},
		{"full, both", of(t, "XXOO"), 2, -1},
	} {
		value, places, e := rows.Solve(c.g, c.k)
		if value != c.value || len(places) != 0 || e != api.OK {
			t.Errorf("%s: %d, %v, %d; want %d and no places", c.what, value, places, e, c.value)
		}
	}
}

// whose turn it is: 0, where it is nobody's.
func whose(g api.Grid) int {
	more := 0
	for _, sign := range g.Cells {
		more += []int{0, 1, -1}[sign]
	}
	switch more {
	case 0:
		return 1
	case 1:
		return 2
	}
	return 0
}

// ends tells who will have won, by boards that are met: 3, if nobody, as 0 would be a board that was not met.
type ends map[string]int

func (known ends) winner(g api.Grid, k int) int {
	if who, _ := plainWon(g, k); who > 0 {
		return who
	}
	name := fmt.Sprint(g.W, k, g.Cells)
	if known[name] == 0 {
		mover, end := whose(g), 0
		for place, sign := range g.Cells {
			if sign == 0 {
				next := clone(g)
				next.Cells[place] = mover
				who := known.winner(next, k)
				if end == 0 || who == mover || who == 3 && end != mover {
					end = who
				}
			}
		}
		if end == 0 {
			end = 3
		}
		known[name] = end
	}
	return known[name]
}

// valueFor the mover of who will have won.
func valueFor(mover, winner int) int {
	switch winner {
	case mover:
		return 1
	case 3:
		return 0
	}
	return -1
}

// plainSolve is asked of boards at which nobody has a row yet.
func (known ends) plainSolve(g api.Grid, k int) (int, []int) {
	mover := whose(g)
	value := valueFor(mover, known.winner(g, k))
	var places []int
	for place, sign := range g.Cells {
		if sign != 0 {
			continue
		}
		next := clone(g)
		next.Cells[place] = mover
		if valueFor(mover, known.winner(next, k)) == value {
			places = append(places, place)
		}
	}
	return value, places
}

// held against the plain search, or against what is said of boards that are refused or over; it tells which kind it was.
func (known ends) held(t *testing.T, g api.Grid, k int) string {
	t.Helper()
	kind, want, at, err := "", 0, []int(nil), api.OK
	empty := 0
	for _, sign := range g.Cells {
		if sign == 0 {
			empty++
		}
	}
	mover := whose(g)
	who, _ := plainWon(g, k)
	switch {
	case mover == 0:
		kind, err = "turn", api.ErrTurn
	case empty > 9:
		kind, err = "size", api.ErrSize
	case who == mover:
		kind, want = "own", 1
	case who > 0:
		kind, want = "other", -1
	case empty == 0:
		kind = "full"
	default:
		want, at = known.plainSolve(g, k)
		kind = fmt.Sprint(want)
	}
	value, places, e := rows.Solve(g, k)
	if value != want || !slices.Equal(places, at) || e != err {
		t.Fatalf("Solve(%v, %d) = %d, %v, %d; want %d, %v, %d", g, k, value, places, e, want, at, err)
	}
	return kind
}

func TestSolveOfAllOfThreeByThree(t *testing.T) {
	known, seen := ends{}, map[string]int{}
	for k := 1; k <= 4; k++ {
		for n := range 19683 {
			g := blank(3, 3)
			for i := range g.Cells {
				g.Cells[i] = n % 3
				n /= 3
			}
			seen[known.held(t, g, k)]++
		}
	}
	for _, kind := range []string{"turn", "own", "other", "full", "1", "0", "-1"} {
		if seen[kind] < 100 {
			t.Errorf("too few of the kind %s: %d", kind, seen[kind])
		}
	}
}

func TestSolveOfMany(t *testing.T) {
	d := die(94)
	seen := map[string]int{}
	for i := range 3000 {
		w, h, k := 1+d.below(api.MaxWide), 1+d.below(api.MaxWide), 2+d.below(9)
		if i%2 == 0 {
			w, h, k = 3+d.below(3), 3+d.below(3), 3+d.below(2) // most of these are not over yet, nor sure to be a draw
		}
		g := d.fair(w, h, min(d.below(7), w*h))
		seen[ends{}.held(t, g, k)]++
	}
	for _, kind := range []string{"own", "other", "full", "1", "0", "-1"} {
		if seen[kind] < 25 {
			t.Errorf("too few of the kind %s: %d", kind, seen[kind])
		}
	}
}

func TestSolveOfAsManyAsMayBe(t *testing.T) {
	d := die(95)
	seen := map[string]int{}
	for _, side := range [][2]int{{9, 1}, {1, 9}, {3, 3}, {4, 3}, {3, 4}, {4, 4}, {5, 7}, {10, 2}, {2, 10}, {10, 10}} {
		for _, k := range []int{3, 4, 6, 9} {
			g := d.fair(side[0], side[1], api.MaxOpen)
			seen[ends{}.held(t, g, k)]++
		}
	}
	if seen["1"] < 3 || seen["0"] < 3 {
		t.Errorf("too few that are not over: %v", seen)
	}
}

func TestSolveRefuses(t *testing.T) {
	for what, g := range wrong() {
		for _, k := range []int{0, 1, 3, 11} {
			if value, places, e := rows.Solve(g, k); value != 0 || len(places) != 0 || e != api.ErrState {
				t.Errorf("Solve of %s, %d: %d, %v, %d", what, k, value, places, e)
			}
		}
	}
	for _, c := range []struct {
		what string
		g    api.Grid
		k    int
		want api.Errno
	}{
		{"none in a row", blank(2, 2), 0, api.ErrRange},
		{"less than none", blank(2, 2), -1, api.ErrRange},
		{"eleven in a row", blank(2, 2), 11, api.ErrRange},
		{"the greatest k", blank(2, 2), math.MaxInt, api.ErrRange},
		{"the least k", blank(2, 2), math.MinInt, api.ErrRange},
		{"k, ahead of whose turn it is", of(t, "XX"), 0, api.ErrRange},
		{"k, ahead of the size", blank(10, 1), 11, api.ErrRange},
		{"the first has two more", of(t, "XX."), 3, api.ErrTurn},
		{"the first has three more", of(t, "XXX"), 3, api.ErrTurn},
		{"the second has one more", of(t, "O.."), 3, api.ErrTurn},
		{"the second has two more", of(t, "OOX", "O.."), 3, api.ErrTurn},
		{"nobody's turn, ahead of a row", of(t, "XXX", "O.."), 3, api.ErrTurn},
		{"nobody's turn, full", of(t, "OXO"), 3, api.ErrTurn},
		{"nobody's turn, ahead of the size", api.Grid{W: 6, H: 2, Cells: []int{2, 11: 0}}, 3, api.ErrTurn},
		{"ten open", blank(10, 1), 3, api.ErrSize},
		{"ten open of eleven and more", of(t, "X.....", "O....."), 3, api.ErrSize},
		{"all open", blank(10, 10), 10, api.ErrSize},
		{"too many open, ahead of a row", of(t, "XXX...", "OO....", "......"), 3, api.ErrSize},
	} {
		if value, places, e := rows.Solve(c.g, c.k); value != 0 || len(places) != 0 || e != c.want {
			t.Errorf("%s: %d, %v, %d; want %d", c.what, value, places, e, c.want)
		}
	}
}

func TestSecondNeverBetterAtFirst(t *testing.T) {
	for w := 1; w <= 9; w++ {
		for h := 1; w*h <= 9; h++ {
			for k := 1; k <= api.MaxWide; k++ {
				value, places, e := rows.Solve(blank(w, h), k)
				if value < 0 || len(places) == 0 || e != api.OK {
					t.Errorf("Solve of nothing on %d and %d, %d in a row: %d, %v, %d", w, h, k, value, places, e)
				}
				// Nobody can have a longer row than the board has.
				if k > max(w, h) && (value != 0 || len(places) != w*h) {
					t.Errorf("%d in a row on %d and %d: %d, %v", k, w, h, value, places)
				}
			}
		}
	}
}

// P9.4

func TestTurns(t *testing.T) {
	for _, c := range []struct {
		what string
		g    api.Grid
		want []api.Grid
	}{
		{"one place", board(1, 1, 2), []api.Grid{board(1, 1, 2)}},
		{"a line", board(3, 1, 2, 0, 1), []api.Grid{board(3, 1, 1, 0, 2), board(3, 1, 2, 0, 1)}},
		{"a column", board(1, 3, 2, 0, 1), []api.Grid{board(1, 3, 1, 0, 2), board(1, 3, 2, 0, 1)}},
		{"a line that is its own mirror", board(3, 1, 1, 0, 1), []api.Grid{board(3, 1, 1, 0, 1)}},
		{"no square: four", board(3, 2, 1, 0, 0, 0, 0, 2), []api.Grid{
			board(3, 2, 0, 0, 1, 2, 0, 0), board(3, 2, 0, 0, 2, 1, 0, 0), board(3, 2, 1, 0, 0, 0, 0, 2), board(3, 2, 2, 0, 0, 0, 0, 1),
		}},
		{"no square: two", board(2, 3, 0, 1, 0, 0, 0, 1), []api.Grid{board(2, 3, 0, 1, 0, 0, 0, 1), board(2, 3, 1, 0, 0, 0, 1, 0)}},
		{"a square: one", board(2, 2, 1, 1, 1, 1), []api.Grid{board(2, 2, 1, 1, 1, 1)}},
		{"a square: two", board(2, 2, 0, 1, 1, 0), []api.Grid{board(2, 2, 0, 1, 1, 0), board(2, 2, 1, 0, 0, 1)}},
		{"a square: four", board(2, 2, 1, 0, 0, 0), []api.Grid{
			board(2, 2, 0, 0, 0, 1), board(2, 2, 0, 0, 1, 0), board(2, 2, 0, 1, 0, 0), board(2, 2, 1, 0, 0, 0),
		}},
		{"a square: eight", of(t, "XO.", "...", "..."), []api.Grid{
			of(t, "...", "...", ".OX"), of(t, "...", "...", "XO."), of(t, "...", "..O", "..X"), of(t, "...", "O..", "X.."),
			of(t, "..X", "..O", "..."), of(t, ".OX", "...", "..."), of(t, "X..", "O..", "..."), of(t, "XO.", "...", "..."),
		}},
	} {
		if l, e := rows.Turns(c.g); !slices.EqualFunc(l, c.want, same) || e != api.OK {
			t.Errorf("%s: %v, %d; want %v", c.what, l, e, c.want)
		}
	}
	for what, g := range wrong() {
		if l, e := rows.Turns(g); len(l) != 0 || e != api.ErrState {
			t.Errorf("Turns of %s: %v, %d", what, l, e)
		}
	}
}

// mirror of a board: each line from its end.
func mirror(g api.Grid) api.Grid {
	g = clone(g)
	for line := range slices.Chunk(g.Cells, g.W) {
		slices.Reverse(line)
	}
	return g
}

// half: turned so that the last place comes first.
func half(g api.Grid) api.Grid {
	g = clone(g)
	slices.Reverse(g.Cells)
	return g
}

// quarter turn of a square.
func quarter(g api.Grid) api.Grid {
	q := blank(g.H, g.W)
	for y := range g.H {
		for x := range g.W {
			q.Cells[x*q.W+q.W-1-y] = g.Cells[y*g.W+x]
		}
	}
	return q
}

func TestTurnsOfMany(t *testing.T) {
	d := die(96)
	var seen [9]int
	for range 20000 {
		g := d.sized(1+d.below(5), 1+d.below(5))
		if d.below(20) == 0 {
			g = d.drawn()
		}
		want := []api.Grid{g, mirror(g), half(g), mirror(half(g))}
		if g.W == g.H {
			for _, b := range slices.Clone(want) {
				want = append(want, quarter(b))
			}
		}
		slices.SortFunc(want, func(a, b api.Grid) int { return slices.Compare(a.Cells, b.Cells) })
		want = slices.CompactFunc(want, same)
		l, e := rows.Turns(g)
		if !slices.EqualFunc(l, want, same) || e != api.OK {
			t.Fatalf("Turns(%v) = %v, %d; want %v", g, l, e, want)
		}
		seen[len(l)]++
	}
	for _, n := range []int{1, 2, 4, 8} {
		if seen[n] < 100 {
			t.Errorf("too few of %d turns: %v", n, seen)
		}
	}
}

func TestTurnedBoardsAreWorthTheSame(t *testing.T) {
	d := die(97)
	for range 300 {
		w, h := 1+d.below(5), 1+d.below(5)
		if d.below(2) == 0 {
			h = w
		}
		g, k := d.fair(w, h, min(d.below(8), w*h)), 2+d.below(4)
		l, _ := rows.Turns(g)
		value, places, e := rows.Solve(g, k)
		who, at, _ := rows.Won(g, k)
		for _, b := range l {
			v, p, f := rows.Solve(b, k)
			o, q, _ := rows.Won(b, k)
			if v != value || len(p) != len(places) || f != e || o != who || len(q) != len(at) {
				t.Fatalf("%v is worth %d, %v, %d, but %v: %d, %v, %d", g, value, places, e, b, v, p, f)
			}
			if again, f := rows.Turns(b); !slices.EqualFunc(again, l, same) || f != api.OK {
				t.Fatalf("Turns(%v) = %v, %d, but of %v %v", b, again, f, g, l)
			}
		}
	}
}

// What holds everywhere.

func TestListsAreLeftAlone(t *testing.T) {
	d := die(98)
	for range 300 {
		w, h := 1+d.below(5), 1+d.below(5)
		g := d.fair(w, h, min(6, w*h))
		before := slices.Clone(g.Cells)
		g.Cells = roomy(g.Cells)
		rows.May(g)
		rows.Show(g)
		rows.Won(g, 2)
		rows.Solve(g, 3)
		rows.Turns(g)
		untouched(t, "a call", g.Cells, before)
	}
	bad := roomy([]int{1, 3, 0, 2})
	rows.Solve(api.Grid{W: 2, H: 2, Cells: bad}, 2)
	rows.Turns(api.Grid{W: 2, H: 2, Cells: bad})
	untouched(t, "a call that refuses", bad, []int{1, 3, 0, 2})
}

// A board that is changed while it is solved, and then put right, is seen by others that look at it meanwhile.
func TestManySolveOneBoard(t *testing.T) {
	g := blank(3, 3)
	var told [8]string
	var all sync.WaitGroup
	for i := range told {
		all.Go(func() {
			for range 10 {
				value, places, e := rows.Solve(g, 3)
				told[i] += fmt.Sprint(value, places, e, rows.May(g), g.Cells)
			}
		})
	}
	all.Wait()
	want := strings.Repeat(fmt.Sprint(0, []int{0, 1, 2, 3, 4, 5, 6, 7, 8}, api.OK, true, make([]int, 9)), 10)
	for _, text := range told {
		if text != want {
			t.Fatalf("told %s; want %s", text, want)
		}
	}
}

func TestAnswersAreNew(t *testing.T) {
	g := of(t, "XX.O", ".O..", "X..O", "OX.X")
	before := slices.Clone(g.Cells)
	all := func() string {
		text, _ := rows.Show(g)
		back, _ := rows.Read(text)
		who, at, _ := rows.Won(g, 2)
		value, places, _ := rows.Solve(g, 3)
		l, _ := rows.Turns(g)
		told := fmt.Sprint(text, back, who, at, value, places, l)
		scribble(back.Cells)
		scribble(at)
		scribble(places)
		for i, b := range l {
			rest := fmt.Sprint(l[i+1:])
			scribble(b.Cells)
			if fmt.Sprint(l[i+1:]) != rest {
				t.Error("boards of one answer share their cells")
			}
		}
		spareRoom := l[len(l):cap(l)]
		for _, b := range spareRoom {
			scribble(b.Cells)
		}
		return told
	}
	if a, b := all(), all(); a != b {
		t.Errorf("asked again: %s, then %s", a, b)
	}
	if !slices.Equal(g.Cells, before) {
		t.Errorf("an answer shares what was handed in: %v", g.Cells)
	}
}
