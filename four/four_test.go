package four_test

import (
	"fmt"
	"math"
	"slices"
	"strings"
	"sync"
	"testing"

	"gameroom/api"
	"gameroom/four"
	"gameroom/rows"
)

const spare = -77

// roomy gives a list with spare room, so that a call that writes behind its end is found out.
func roomy(l []int) []int {
	r := make([]int, len(l)+8)
	copy(r, l)
	for i := len(l); i < len(r); i++ {
		r[i] = spare
	}
	return r[:len(l)]
}

func untouched(t *testing.T, what string, l, before []int) {
	t.Helper()
	if !slices.Equal(l, before) {
		t.Errorf("%s changed what was handed in: %v, was %v", what, l, before)
	}
	for _, x := range l[len(l):cap(l)] {
		if x != spare {
			t.Errorf("%s wrote into the spare room of what was handed in", what)
			return
		}
	}
}

// scribble overwrites a list and its spare room.
func scribble(l []int) {
	l = l[:cap(l)]
	for i := range l {
		l[i] = spare
	}
}

// die gives numbers that look drawn, the same each time.
type die uint64

func (d *die) below(n int) int {
	*d = *d*6364136223846793005 + 1442695040888963407
	return int(uint64(*d>>33) % uint64(n))
}

// fallen board: so many signs by turns, each in some column, whoever has a row.
func (d *die) fallen(w, h, signs int) api.Grid {
	g := blank(w, h)
	for i := range min(signs, w*h) {
		column := d.below(w)
		for plainPlace(g, column) < 0 {
			column = (column + 1) % w
		}
		g.Cells[plainPlace(g, column)] = 1 + i%2
	}
	return g
}

// unfair board: what stands in a place does not hang, but whose turn it is may be unclear.
func (d *die) unfair(w, h int) api.Grid {
	g := blank(w, h)
	for range d.below(w*h + 1) {
		if place := plainPlace(g, d.below(w)); place >= 0 {
			g.Cells[place] = 1 + d.below(2)
		}
	}
	return g
}

func blank(w, h int) api.Grid { return api.Grid{W: w, H: h, Cells: make([]int, w*h)} }

func board(w, h int, cells ...int) api.Grid { return api.Grid{W: w, H: h, Cells: cells} }

// of rows, told as texts.
func of(t *testing.T, lines ...string) api.Grid {
	t.Helper()
	g := api.Grid{H: len(lines), W: len(lines[0])}
	for _, line := range lines {
		if len(line) != g.W {
			t.Fatalf("lines of unlike lengths: %q", lines)
		}
		for i := range len(line) {
			g.Cells = append(g.Cells, strings.IndexByte(".XO", line[i]))
		}
	}
	return g
}

func same(a, b api.Grid) bool {
	return a.W == b.W && a.H == b.H && slices.Equal(a.Cells, b.Cells)
}

func isZero(g api.Grid) bool { return g.W == 0 && g.H == 0 && len(g.Cells) == 0 }

func clone(g api.Grid) api.Grid {
	g.Cells = slices.Clone(g.Cells)
	return g
}

// mirror of a board: each line from its end.
func mirror(g api.Grid) api.Grid {
	g = clone(g)
	for line := range slices.Chunk(g.Cells, g.W) {
		slices.Reverse(line)
	}
	return g
}

// wrong boards, of each kind of fault.
func wrong(t *testing.T) map[string]api.Grid {
	return map[string]api.Grid{
		"nothing":                       {},
		"no columns":                    board(0, 1),
		"no rows":                       board(1, 0),
		"eleven columns":                blank(11, 1),
		"eleven rows":                   blank(1, 11),
		"columns below 0":               {W: -1, H: 1, Cells: []int{0}},
		"both sides below 0":            {W: -2, H: -2, Cells: make([]int, 4)},
		"sides whose product wraps":     {W: 1 << 32, H: 1 << 32},
		"sides that wrap to one":        {W: math.MaxInt, H: math.MaxInt, Cells: []int{0}},
		"the least sides":               {W: math.MinInt, H: math.MinInt},
		"no numbers":                    {W: 3, H: 3},
		"a number short":                {W: 3, H: 3, Cells: make([]int, 8)},
		"a number too many":             {W: 3, H: 3, Cells: make([]int, 10)},
		"a number below 0":              board(2, 1, -1, 0),
		"a 3":                           board(2, 1, 0, 3),
		"the greatest number":           board(1, 1, math.MaxInt),
		"the least number":              board(1, 1, math.MinInt),
		"a sign above an empty place":   of(t, "X", "."),
		"the other's sign above one":    of(t, "O.", ".X"),
		"a sign that hangs between":     of(t, ".", "X", ".", "O"),
		"a sign that hangs in the last": of(t, "....", "...X", "XO.."),
		"a sign high above":             of(t, "..X", "...", "...", "OX."),
		"signs above one empty place":   of(t, "X..", "O..", "..."),
		"a sign that hangs, and a row":  of(t, "X...", "....", ".OO.", ".XXX"),
		"a sign that hangs, no turn":    of(t, "O.", ".."),
	}
}

// plainPlace: where a sign comes that falls from above; -1, if nowhere.
func plainPlace(g api.Grid, column int) int {
	at := -1
	for y := 0; y < g.H && g.Cells[y*g.W+column] == 0; y++ {
		at = y*g.W + column
	}
	return at
}

// whose turn it is: 0, where it is nobody's.
func whose(g api.Grid) int {
	more := 0
	for _, sign := range g.Cells {
		more += []int{0, 1, -1}[sign]
	}
	switch more {
	case 0:
		return 1
	case 1:
		return 2
	}
	return 0
}

func winner(t *testing.T, g api.Grid, k int) int {
	t.Helper()
	who, _, e := rows.Won(g, k)
	if e != api.OK {
		t.Fatalf("Won(%v, %d): %d", g, k, e)
	}
	return who
}

// P10.1

func TestDrop(t *testing.T) {
	for _, c := range []struct {
		what      string
		g         api.Grid
		column, k int
		want      api.Grid
	}{
		{"the first one", of(t, "...", "..."), 1, 4, of(t, "...", ".X.")},
		{"the second one, on top", of(t, "...", ".X."), 1, 4, of(t, ".O.", ".X.")},
		{"the second one, beside", of(t, "...", ".X."), 2, 4, of(t, "...", ".XO")},
		{"the first column", of(t, ".O.", ".X."), 0, 4, of(t, ".O.", "XX.")},
		{"the last column", of(t, ".O.", ".X."), 2, 4, of(t, ".O.", ".XX")},
		{"one place", blank(1, 1), 0, 1, board(1, 1, 1)},
		{"a column alone", of(t, ".", ".", "O", "X"), 0, 3, of(t, ".", "X", "O", "X")},
		{"a line alone", of(t, "X..O."), 1, 3, of(t, "XX.O.")},
		{"the last place", of(t, "O.X", "XXO"), 1, 3, of(t, "OOX", "XXO")},
		{"a row is made, across", of(t, "OO.", "XX."), 2, 3, of(t, "OO.", "XXX")},
		{"a row is made, down", of(t, "...", "X.O", "X.O"), 0, 3, of(t, "X..", "X.O", "X.O")},
		{"a row is made of one", of(t, "..", ".."), 0, 1, of(t, "..", "X.")},
		{"fewer than k", of(t, "OOO.", "XXX."), 3, 4, of(t, "OOO.", "XXXX")},
		{"k greater than the board", of(t, ".O", "XX"), 0, 10, of(t, "OO", "XX")},
	} {
		if g, e := four.Drop(c.g, c.column, c.k); !same(g, c.want) || e != api.OK {
			t.Errorf("%s: %v, %d; want %v", c.what, g, e, c.want)
		}
	}
}

func TestDropRefuses(t *testing.T) {
	for what, g := range wrong(t) {
		for _, column := range []int{-1, 0, 1} {
			for _, k := range []int{0, 1, 4, 11} {
				if x, e := four.Drop(g, column, k); !isZero(x) || e != api.ErrState {
					t.Errorf("Drop of %s, %d, %d: %v, %d", what, column, k, x, e)
				}
			}
		}
	}
	for _, c := range []struct {
		what      string
		g         api.Grid
		column, k int
		want      api.Errno
	}{
		{"none in a row", blank(2, 2), 0, 0, api.ErrRange},
		{"less than none", blank(2, 2), 0, -1, api.ErrRange},
		{"eleven in a row", blank(2, 2), 0, 11, api.ErrRange},
		{"the greatest k", blank(2, 2), 0, math.MaxInt, api.ErrRange},
		{"the least k", blank(2, 2), 0, math.MinInt, api.ErrRange},
		{"k, ahead of whose turn it is", of(t, "XX"), 0, 0, api.ErrRange},
		{"k, ahead of the column", blank(2, 2), 2, 11, api.ErrRange},
		{"the first has two more", of(t, "XX."), 2, 3, api.ErrTurn},
		{"the second has one more", of(t, "O.."), 2, 3, api.ErrTurn},
		{"nobody's turn, ahead of a row", of(t, "XXX."), 3, 3, api.ErrTurn},
		{"nobody's turn, ahead of the column", of(t, "O.."), 3, 3, api.ErrTurn},
		{"nobody's turn, full", of(t, "OXO"), 0, 3, api.ErrTurn},
		{"the other has a row", of(t, "....", "OO..", "XXX."), 3, 3, api.ErrOver},
		{"the second has a row, the first moves", of(t, "X...", "XX..", "OOO."), 3, 3, api.ErrOver},
		{"the mover has a row itself", of(t, "....", "OOO.", "XXX."), 2, 3, api.ErrOver},
		{"a longer row than k", of(t, "....", "OOO.", "XXXX"), 0, 3, api.ErrOver},
		{"a row that slants", of(t, "..XO", ".XOO", "XOXX"), 0, 3, api.ErrOver},
		{"a row of one", of(t, "X."), 1, 1, api.ErrOver},
		{"a row, ahead of the column", of(t, "....", "OO..", "XXX."), 4, 3, api.ErrOver},
		{"a row, ahead of a full column", of(t, "O.", "O.", "X.", "X."), 0, 2, api.ErrOver},
		{"a row on a full board", of(t, "OO", "XX"), 0, 2, api.ErrOver},
		{"a column ahead of the first", blank(3, 2), -1, 3, api.ErrPlace},
		{"a column behind the last", blank(3, 2), 3, 3, api.ErrPlace},
		{"the greatest column", blank(3, 2), math.MaxInt, 3, api.ErrPlace},
		{"the least column", blank(3, 2), math.MinInt, 3, api.ErrPlace},
		{"a place that is no column", blank(2, 3), 5, 3, api.ErrPlace},
		{"no such column, on a full board", of(t, "XO"), 2, 3, api.ErrPlace},
		{"a full column", of(t, ".O.", ".X."), 1, 3, api.ErrCount},
		{"a full first column", of(t, "O..", "X.."), 0, 2, api.ErrCount},
		{"a full last column", of(t, "..O", "..X"), 2, 2, api.ErrCount},
		{"a full board", of(t, "XO"), 1, 2, api.ErrCount},
		{"one place, full", board(1, 1, 1), 0, 2, api.ErrCount},
	} {
		if g, e := four.Drop(c.g, c.column, c.k); !isZero(g) || e != c.want {
			t.Errorf("%s: %v, %d; want %d", c.what, g, e, c.want)
		}
	}
}

// plainDrop: what is to come of a drop.
func plainDrop(t *testing.T, g api.Grid, column, k int) (api.Grid, api.Errno) {
	switch {
	case whose(g) == 0:
		return api.Grid{}, api.ErrTurn
	case winner(t, g, k) > 0:
		return api.Grid{}, api.ErrOver
	case column < 0 || column >= g.W:
		return api.Grid{}, api.ErrPlace
	case plainPlace(g, column) < 0:
		return api.Grid{}, api.ErrCount
	}
	mover := whose(g)
	g = clone(g)
	g.Cells[plainPlace(g, column)] = mover
	return g, api.OK
}

func TestDropOfMany(t *testing.T) {
	d := die(101)
	var seen [15]int
	for i := range 20000 {
		w, h := 1+d.below(api.MaxWide), 1+d.below(api.MaxWide)
		g := d.unfair(w, h)
		if i%10 > 0 {
			g = d.fallen(w, h, d.below(w*h+1))
		}
		column, k := d.below(w+2)-1, 1+d.below(api.MaxWide)
		x, e := four.Drop(g, column, k)
		want, err := plainDrop(t, g, column, k)
		if !same(x, want) || e != err {
			t.Fatalf("Drop(%v, %d, %d) = %v, %d; want %v, %d", g, column, k, x, e, want, err)
		}
		seen[e]++
	}
	for _, e := range []api.Errno{api.OK, api.ErrTurn, api.ErrOver, api.ErrPlace, api.ErrCount} {
		if seen[e] < 300 {
			t.Errorf("too few of %d: %v", e, seen)
		}
	}
}

// played on from a board: a drop in some column in which it may be, and whether there was one.
func (d *die) played(g api.Grid, k int) (api.Grid, bool) {
	from := d.below(g.W)
	for i := range g.W {
		if x, e := four.Drop(g, (from+i)%g.W, k); e == api.OK {
			return x, true
		}
	}
	return g, false
}

// A game that is dropped sign by sign ends with a row of who dropped last, or with a full board.
func TestGamesToTheirEnd(t *testing.T) {
	d := die(102)
	withRow, full := 0, 0
	for range 500 {
		g, k := blank(1+d.below(api.MaxWide), 1+d.below(api.MaxWide)), 2+d.below(5)
		made := 0
		for more := true; more; made++ {
			g, more = d.played(g, k)
		}
		made--
		switch who := winner(t, g, k); {
		case who > 0 && made%2 == who%2:
			withRow++
		case who == 0 && made == g.W*g.H:
			full++
		default:
			t.Fatalf("%v, %d in a row: ended after %d drops, %d has a row", g, k, made, who)
		}
	}
	if withRow < 50 || full < 50 {
		t.Errorf("%d ended by a row, %d full", withRow, full)
	}
}

// P10.2

func TestThreats(t *testing.T) {
	for _, c := range []struct {
		what   string
		g      api.Grid
		who, k int
		want   []int
	}{
		{"an empty board", blank(3, 3), 1, 2, nil},
		{"one is a row", of(t, "...", "XO."), 1, 1, []int{0, 1, 2, 5}},
		{"one is a row, of the other", of(t, "...", "XO."), 2, 1, []int{0, 1, 2, 5}},
		{"across, at both ends", of(t, ".XX."), 1, 3, []int{0, 3}},
		{"across, a gap", of(t, "XX.X"), 1, 4, []int{2}},
		{"across, one too few", of(t, "XX.."), 1, 4, nil},
		{"down", of(t, ".", "X", "X", "X"), 1, 4, []int{0}},
		{"down, but not far enough", of(t, ".", "X", "X", "O"), 1, 4, nil},
		{"where no sign can fall yet", of(t, "....", "....", "XX..", "OO.."), 1, 3, []int{10}},
		{"both that can fall and not", of(t, "....", "....", "XXX.", "OOO."), 1, 4, []int{11}},
		{"the same of the other", of(t, "....", "....", "XXX.", "OOO."), 2, 4, []int{15}},
		{"slanting to the right", of(t, "....", ".X..", "XOX.", "OOOX"), 1, 4, []int{0}},
		{"slanting to the left", of(t, "....", "..X.", ".XO.", "XOO."), 1, 4, []int{3}},
		{"a gap that slants", of(t, "...X", "...O", ".X.O", "XO.X"), 1, 4, []int{6}},
		{"two by two in all directions", of(t, "...", "...", ".O."), 2, 2, []int{3, 4, 5, 6, 8}},
		{"a row of the other is none", of(t, ".XX."), 2, 3, nil},
		{"not over the border", of(t, ".....", "..X..", "XXO.."), 1, 4, nil},
		{"longer than k", of(t, "XX.XX"), 1, 3, []int{2}},
		{"beside a row that is there", of(t, "XXX.."), 1, 3, []int{3}},
		{"a row that is there is none elsewhere", of(t, "....", "OO..", "XXX."), 1, 3, []int{11}},
		{"a full board", of(t, "OX", "XO"), 1, 2, nil},
		{"one place", blank(1, 1), 2, 1, []int{0}},
		{"greater than the board", of(t, "XX.", "XX."), 1, 10, nil},
		{"ten", board(10, 1, 1, 1, 1, 1, 0, 1, 1, 1, 1, 1), 1, 10, []int{4}},
		{"whoever's turn it is", of(t, "OOO."), 2, 4, []int{3}},
	} {
		l, e := four.Threats(c.g, c.who, c.k)
		if !slices.Equal(l, c.want) || e != api.OK {
			t.Errorf("%s: %v, %d; want %v", c.what, l, e, c.want)
		}
	}
}

// plainThreats looks at all rows of k places that a board has: k - 1 of the player's signs, and an empty one.
func plainThreats(g api.Grid, who, k int) []int {
	var l []int
	for at := range g.W * g.H {
		for _, d := range [][2]int{{1, 0}, {0, 1}, {1, 1}, {1, -1}} {
			x, y := at%g.W, at/g.W
			own, empty := 0, []int{}
			for i := range k {
				a, b := x+i*d[0], y+i*d[1]
				if a >= g.W || b >= g.H || b < 0 {
					break
				}
				switch g.Cells[b*g.W+a] {
				case who:
					own++
				case 0:
					empty = append(empty, b*g.W+a)
				}
			}
			if own == k-1 && len(empty) == 1 {
				l = append(l, empty...)
			}
		}
	}
	slices.Sort(l)
	return slices.Compact(l)
}

func TestThreatsOfMany(t *testing.T) {
	d := die(103)
	some, none := 0, 0
	for i := range 20000 {
		w, h := 1+d.below(api.MaxWide), 1+d.below(api.MaxWide)
		g := d.fallen(w, h, d.below(w*h+1))
		if i%3 == 0 {
			g = d.unfair(w, h)
		}
		who, k := 1+d.below(2), 1+d.below(5)
		if d.below(10) == 0 {
			k = 1 + d.below(api.MaxWide)
		}
		l, e := four.Threats(g, who, k)
		if want := plainThreats(g, who, k); !slices.Equal(l, want) || e != api.OK {
			t.Fatalf("Threats(%v, %d, %d) = %v, %d; want %v", g, who, k, l, e, want)
		}
		if len(l) > 0 {
			some++
		} else {
			none++
		}
	}
	if some < 3000 || none < 3000 {
		t.Errorf("%d with threats, %d without", some, none)
	}
}

func TestThreatsRefuses(t *testing.T) {
	for what, g := range wrong(t) {
		for _, who := range []int{0, 1, 3} {
			for _, k := range []int{0, 1, 4, 11} {
				if l, e := four.Threats(g, who, k); len(l) != 0 || e != api.ErrState {
					t.Errorf("Threats of %s, %d, %d: %v, %d", what, who, k, l, e)
				}
			}
		}
	}
	for _, c := range []struct {
		who, k int
		want   api.Errno
	}{
		{1, 0, api.ErrRange}, {2, -1, api.ErrRange}, {1, 11, api.ErrRange},
		{1, math.MaxInt, api.ErrRange}, {2, math.MinInt, api.ErrRange}, {0, 0, api.ErrRange}, {3, 11, api.ErrRange},
		{0, 1, api.ErrKind}, {3, 10, api.ErrKind}, {-1, 2, api.ErrKind},
		{math.MaxInt, 2, api.ErrKind}, {math.MinInt, 2, api.ErrKind},
	} {
		if l, e := four.Threats(of(t, "...", "XX."), c.who, c.k); len(l) != 0 || e != c.want {
			t.Errorf("Threats of %d, %d in a row: %v, %d; want %d", c.who, c.k, l, e, c.want)
		}
	}
}

// P10.3

func TestBest(t *testing.T) {
	for _, c := range []struct {
		what          string
		g             api.Grid
		k, deep       int
		value, column int
	}{
		{"nobody looks", blank(7, 6), 4, 0, 0, -1},
		{"nobody looks at what could be made", of(t, "OO.", "XX."), 3, 0, 0, -1},
		{"one ply is enough to make it", of(t, "OO.", "XX."), 3, 1, 99, 2},
		{"nothing in sight", blank(7, 6), 4, 4, 0, 0},
		{"one is a row", blank(3, 2), 1, 1, 99, 0},
		{"the second makes a row", of(t, "....", "X..X", "OO.X"), 3, 1, 99, 2},
		{"the last column, however far they look", of(t, "....", "OOO.", "XXX."), 4, 6, 99, 3},
		{"the first of two columns that do", of(t, ".....", ".OO..", ".XX.."), 3, 6, 99, 0},
		{"the first column is full", of(t, "X...", "O...", "OXX.", "XOO."), 3, 3, 99, 1},
		{"two in a row by three plies", blank(3, 1), 2, 3, 97, 1},
		{"looking ends ahead of it", blank(3, 1), 2, 2, 0, 0},
		{"a row at once is worth more than a later one", blank(5, 1), 1, 6, 99, 0},
		{"the other's row is stopped", of(t, "....", "...X", "..OX", "..OX"), 4, 2, 0, 3},
		{"it is not seen one ply ahead", of(t, "....", "...X", "..OX", "..OX"), 4, 1, 0, 0},
		{"it cannot be stopped", of(t, ".....", ".XX.O"), 3, 2, -98, 0},
		{"nor if they look farther", of(t, ".....", ".XX.O"), 3, 6, -98, 0},
		{"that isn't seen one ply ahead", of(t, ".....", ".XX.O"), 3, 1, 0, 0},
		{"its own row is ahead of the other's", of(t, "OO...", "OXX.X"), 3, 4, 99, 3},
		{"the last place", of(t, "O.X", "XXO"), 3, 6, 0, 1},
		{"one place, two in a row", blank(1, 1), 2, 6, 0, 0},
		{"one column, two in a row", blank(1, 9), 2, 6, 0, 0},
		{"one column, full soon", of(t, ".", "X"), 2, 6, 0, 0},
	} {
		value, column, e := four.Best(c.g, c.k, c.deep)
		if value != c.value || column != c.column || e != api.OK {
			t.Errorf("%s: %d, %d, %d; want %d, %d", c.what, value, column, e, c.value, c.column)
		}
	}
}

func TestBestOfWhatIsOver(t *testing.T) {
	for _, c := range []struct {
		what  string
		g     api.Grid
		k     int
		value int
	}{
		{"its own row, the first moves", of(t, "....", "OO..", "XXXO"), 3, 100},
		{"its own row, the second moves", of(t, "X...", "XX..", "OOOX"), 3, 100},
		{"the other's row, the second moves", of(t, "....", "OO..", "XXX."), 3, -100},
		{"the other's row, the first moves", of(t, "X...", "XX..", "OOO."), 3, -100},
		{"both have one, the first moves", of(t, "....", "OOO.", "XXX."), 3, -100},
		{"both have one, the second moves", of(t, "X...", "OOO.", "XXX."), 3, -100},
		{"a longer row", of(t, "OOO.", "XXXX"), 4, -100},
		{"a row of one", of(t, "X."), 1, -100},
		{"rows of one of both", of(t, "XO."), 1, -100},
		{"full, nobody, the first moves", of(t, "XO"), 2, 0},
		{"full, nobody, the second moves", of(t, "XOX"), 2, 0},
		{"full, its own row", of(t, "OXXO"), 2, 100},
		{"full, the other's row", of(t, "XOOX"), 2, -100},
		{"full, both", of(t, "OO", "XX"), 2, -100},
	} {
		for deep := range api.MaxDeep + 1 {
			value, column, e := four.Best(c.g, c.k, deep)
			if value != c.value || column != -1 || e != api.OK {
				t.Errorf("%s, %d deep: %d, %d, %d; want %d, -1", c.what, deep, value, column, e, c.value)
			}
		}
	}
}

func TestBestRefuses(t *testing.T) {
	for what, g := range wrong(t) {
		for _, k := range []int{0, 1, 4, 11} {
			for _, deep := range []int{-1, 0, 3, 7} {
				if value, column, e := four.Best(g, k, deep); value != 0 || column != 0 || e != api.ErrState {
					t.Errorf("Best of %s, %d, %d: %d, %d, %d", what, k, deep, value, column, e)
				}
			}
		}
	}
	for _, c := range []struct {
		what    string
		g       api.Grid
		k, deep int
		want    api.Errno
	}{
		{"none in a row", blank(2, 2), 0, 1, api.ErrRange},
		{"less than none", blank(2, 2), -1, 1, api.ErrRange},
		{"eleven in a row", blank(2, 2), 11, 1, api.ErrRange},
		{"the greatest k", blank(2, 2), math.MaxInt, 1, api.ErrRange},
		{"the least k", blank(2, 2), math.MinInt, 1, api.ErrRange},
		{"less than no plies", blank(2, 2), 2, -1, api.ErrRange},
		{"seven plies", blank(2, 2), 2, 7, api.ErrRange},
		{"the most plies", blank(2, 2), 2, math.MaxInt, api.ErrRange},
		{"the least plies", blank(2, 2), 2, math.MinInt, api.ErrRange},
		{"plies, though it is over", of(t, "XX", "OO"), 2, 7, api.ErrRange},
		{"k, ahead of whose turn it is", of(t, "XX."), 0, 1, api.ErrRange},
		{"plies, ahead of whose turn it is", of(t, "XX."), 3, 7, api.ErrRange},
		{"the first has two more", of(t, "XX."), 3, 1, api.ErrTurn},
		{"the second has one more", of(t, "O.."), 3, 0, api.ErrTurn},
		{"nobody's turn, ahead of a row", of(t, "XXX."), 3, 6, api.ErrTurn},
		{"nobody's turn, full", of(t, "OXO"), 3, 1, api.ErrTurn},
	} {
		if value, column, e := four.Best(c.g, c.k, c.deep); value != 0 || column != 0 || e != c.want {
			t.Errorf("%s: %d, %d, %d; want %d", c.what, value, column, e, c.want)
		}
	}
}

// plainWorth of a board for who moved at first, so many plies ago, looked at as a whole.
func plainWorth(t *testing.T, g api.Grid, k, who, ago, deep int) (int, int) {
	switch winner(t, g, k) {
	case 0:
	case who:
		return 100 - ago, -1
	default:
		return ago - 100, -1
	}
	mover, best, at := whose(g), 0, -1
	for column := 0; column < g.W && ago < deep; column++ {
		place := plainPlace(g, column)
		if place < 0 {
			continue
		}
		next := clone(g)
		next.Cells[place] = mover
		worth, _ := plainWorth(t, next, k, who, ago+1, deep)
		if at < 0 || mover == who && worth > best || mover != who && worth < best {
			best, at = worth, column
		}
	}
	return best, at
}

// looked at: a board, how many in a row, and how deep. What the plain search can look at in time is narrow, or looked at less deep.
func (d *die) looked() (api.Grid, int, int) {
	w, h := 1+d.below(4), 1+d.below(5)
	switch d.below(3) {
	case 0:
		return d.fallen(w, h, d.below(w*h+1)), 2 + d.below(4), d.below(api.MaxDeep + 1)
	case 1:
		return d.fallen(4, 3, 1+d.below(5)), 3, 3 + d.below(4) // most of these are not over soon
	}
	w, h = 1+d.below(api.MaxWide), 1+d.below(api.MaxWide)
	return d.fallen(w, h, d.below(w*h+1)), 3 + d.below(4), d.below(3)
}

func TestBestOfMany(t *testing.T) {
	d := die(104)
	seen := map[int]int{}
	for range 1500 {
		g, k, deep := d.looked()
		value, column, e := four.Best(g, k, deep)
		want, at := plainWorth(t, g, k, whose(g), 0, deep)
		if value != want || column != at || e != api.OK {
			t.Fatalf("Best(%v, %d, %d) = %d, %d, %d; want %d, %d", g, k, deep, value, column, e, want, at)
		}
		seen[value]++
	}
	for _, value := range []int{100, 99, 97, 95, -100, -98, -96, -94, 0} {
		if seen[value] < 5 {
			t.Errorf("too few of the value %d: %v", value, seen)
		}
	}
}

func TestBestOfTheWidest(t *testing.T) {
	for _, k := range []int{4, 10} {
		if value, column, e := four.Best(blank(10, 10), k, api.MaxDeep); value != 0 || column != 0 || e != api.OK {
			t.Errorf("%d in a row: %d, %d, %d", k, value, column, e)
		}
	}
	if value, column, e := four.Best(blank(10, 10), 2, api.MaxDeep); value != 97 || column != 0 || e != api.OK {
		t.Errorf("two in a row: %d, %d, %d", value, column, e)
	}
}

func TestMirroredBoardsAreWorthTheSame(t *testing.T) {
	d := die(105)
	for range 500 {
		w, h, k, deep := 1+d.below(6), 1+d.below(6), 2+d.below(3), d.below(5)
		g := d.fallen(w, h, d.below(w*h+1))
		value, column, e := four.Best(g, k, deep)
		v, c, f := four.Best(mirror(g), k, deep)
		if v != value || f != e || c < 0 != (column < 0) || column >= 0 && w-1-c < column {
			t.Fatalf("%v is worth %d, %d, %d; mirrored: %d, %d, %d", g, value, column, e, v, c, f)
		}
		l, _ := four.Threats(g, 1, k)
		m, _ := four.Threats(mirror(g), 1, k)
		for i, place := range m {
			m[i] = place - place%w + w - 1 - place%w
		}
		if slices.Sort(m); !slices.Equal(l, m) {
			t.Fatalf("%v has threats at %v; mirrored: %v", g, l, m)
		}
	}
}

// P10.4

func TestCount(t *testing.T) {
	for _, c := range []struct {
		what           string
		w, h, k, plies int
		want           int
	}{
		{"the chapter's example", 7, 6, 4, 2, 49},
		{"no drops", 7, 6, 4, 0, 1},
		{"no drops, one place", 1, 1, 1, 0, 1},
		{"one drop", 7, 6, 4, 1, 7},
		{"six drops", 7, 6, 4, 6, 117649},
		{"one drop makes a row", 5, 3, 1, 1, 5},
		{"none behind it", 5, 3, 1, 2, 0},
		{"none far behind it", 5, 3, 1, 6, 0},
		{"one place", 1, 1, 2, 1, 1},
		{"a full board", 1, 1, 2, 2, 0},
		{"a line", 6, 1, 10, 6, 720},
		{"a line of ten", 10, 1, 10, 6, 151200},
		{"a line, full", 5, 1, 10, 6, 0},
		{"a column, by turns", 1, 6, 2, 6, 1},
		{"a column, full", 1, 5, 2, 6, 0},
		{"a full column", 2, 1, 2, 2, 2},
		{"two drops of the second's choice beside or above", 2, 2, 2, 2, 4},
		{"two in a row are made by the third", 2, 2, 2, 3, 6},
		{"none go on", 2, 2, 2, 4, 0},
		{"two in a row in a line", 4, 1, 2, 4, 12},
		{"the widest", 10, 10, 4, 6, 1000000},
	} {
		if n, e := four.Count(c.w, c.h, c.k, c.plies); n != c.want || e != api.OK {
			t.Errorf("%s: %d, %d; want %d", c.what, n, e, c.want)
		}
	}
}

// dropped rows from a board on, each drop by itself.
func dropped(g api.Grid, k, plies int) int {
	if plies == 0 {
		return 1
	}
	n := 0
	for column := range g.W {
		if next, e := four.Drop(g, column, k); e == api.OK {
			n += dropped(next, k, plies-1)
		}
	}
	return n
}

func TestCountIsTheSumOverAllFirstDrops(t *testing.T) {
	for w := 1; w <= 5; w++ {
		for h := 1; h <= 5; h++ {
			for k := 1; k <= 6; k++ {
				for plies := range 6 {
					if n, e := four.Count(w, h, k, plies); n != dropped(blank(w, h), k, plies) || e != api.OK {
						t.Errorf("Count(%d, %d, %d, %d) = %d, %d", w, h, k, plies, n, e)
					}
				}
			}
		}
	}
	for _, w := range []int{3, 4} {
		for h := 1; h <= api.MaxWide; h++ {
			for k := 1; k <= 4; k++ {
				if n, e := four.Count(w, h, k, 6); n != dropped(blank(w, h), k, 6) || e != api.OK {
					t.Errorf("Count(%d, %d, %d, 6) = %d, %d", w, h, k, n, e)
				}
			}
		}
	}
}

func TestCountRefuses(t *testing.T) {
	for _, far := range []int{math.MinInt, -1, 0, 11, 1 << 32, math.MaxInt} {
		for _, c := range [][4]int{{far, 6, 4, 2}, {7, far, 4, 2}, {7, 6, far, 2}, {far, far, 4, 2}, {far, far, far, far}} {
			if n, e := four.Count(c[0], c[1], c[2], c[3]); n != 0 || e != api.ErrRange {
				t.Errorf("Count%v = %d, %d", c, n, e)
			}
		}
	}
	for _, plies := range []int{math.MinInt, -1, 7, 1 << 32, math.MaxInt} {
		if n, e := four.Count(7, 6, 4, plies); n != 0 || e != api.ErrRange {
			t.Errorf("Count of %d drops: %d, %d", plies, n, e)
		}
	}
}

// What holds everywhere.

func TestListsAreLeftAlone(t *testing.T) {
	d := die(106)
	for range 300 {
		w, h := 1+d.below(5), 1+d.below(5)
		g := d.fallen(w, h, d.below(w*h+1))
		before := slices.Clone(g.Cells)
		g.Cells = roomy(g.Cells)
		four.Drop(g, d.below(w), 3)
		four.Threats(g, 1, 3)
		four.Best(g, 3, 3)
		untouched(t, "a call", g.Cells, before)
	}
	bad := roomy([]int{1, 3, 0, 2})
	four.Drop(api.Grid{W: 2, H: 2, Cells: bad}, 0, 2)
	four.Threats(api.Grid{W: 2, H: 2, Cells: bad}, 1, 2)
	four.Best(api.Grid{W: 2, H: 2, Cells: bad}, 2, 2)
	untouched(t, "a call that refuses", bad, []int{1, 3, 0, 2})
}

// A board that is changed while it is looked at, and then put right, is seen by others that look at it meanwhile.
func TestManyLookAtOneBoard(t *testing.T) {
	g := of(t, ".....", ".....", "..X..", "..O..", ".OX..")
	ask := func() string {
		x, e := four.Drop(g, 3, 3)
		l, f := four.Threats(g, 1, 3)
		value, column, h := four.Best(g, 3, 4)
		n, i := four.Count(4, 4, 3, 4)
		return fmt.Sprint(x, e, l, f, value, column, h, n, i, g)
	}
	want := ask()
	var told [8]string
	var all sync.WaitGroup
	for i := range told {
		all.Go(func() { told[i] = ask() + ask() })
	}
	all.Wait()
	for _, text := range told {
		if text != want+want {
			t.Fatalf("told %s; want %s twice", text, want)
		}
	}
}

func TestAnswersAreNew(t *testing.T) {
	g := of(t, "....", ".O..", "XX.O")
	before := slices.Clone(g.Cells)
	all := func() string {
		x, _ := four.Drop(g, 2, 4)
		l, _ := four.Threats(g, 1, 3)
		told := fmt.Sprint(x, l)
		scribble(x.Cells)
		scribble(l)
		return told
	}
	if a, b := all(), all(); a != b {
		t.Errorf("asked again: %s, then %s", a, b)
	}
	if !slices.Equal(g.Cells, before) {
		t.Errorf("an answer shares what was handed in: %v", g.Cells)
	}
}
