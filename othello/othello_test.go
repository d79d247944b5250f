package othello_test

import (
	"fmt"
	"math"
	"slices"
	"strings"
	"sync"
	"testing"

	"gameroom/api"
	"gameroom/othello"
)

const spare = -77

// roomy gives a list with spare room, so that a call that writes behind its end is found out.
func roomy(l []int) []int {
	r := make([]int, len(l)+8)
	copy(r, l)
	for i := len(l); i < len(r); i++ {
		r[i] = spare
	}
	return r[:len(l)]
}

func untouched(t *testing.T, what string, l, before []int) {
	t.Helper()
	if !slices.Equal(l, before) {
		t.Errorf("%s changed what was handed in: %v, was %v", what, l, before)
	}
	for _, x := range l[len(l):cap(l)] {
		if x != spare {
			t.Errorf("%s wrote into the spare room of what was handed in", what)
			return
		}
	}
}

// scribble overwrites a list and its spare room.
func scribble(l []int) {
	l = l[:cap(l)]
	for i := range l {
		l[i] = spare
	}
}

// die gives numbers that look drawn, the same each time.
type die uint64

func (d *die) below(n int) int {
	*d = *d*6364136223846793005 + 1442695040888963407
	return int(uint64(*d>>33) % uint64(n))
}

func (d *die) side() int { return 4 + 2*d.below(3) }

// drawn board of any size, with few signs or many; no game need lead there.
func (d *die) drawn() api.Grid { return d.sized(d.side(), d.side()) }

func (d *die) sized(w, h int) api.Grid {
	g := blank(w, h)
	kinds := [][]int{{0, 1, 2}, {1, 2}, {0, 1, 2, 2, 2}, {0, 1, 1, 1, 2}, {0, 0, 0, 1, 2}, {0, 1, 1, 1, 1, 1, 2, 2, 2, 2, 2}}[d.below(6)]
	for i := range g.Cells {
		g.Cells[i] = kinds[d.below(len(kinds))]
	}
	return g
}

// played board: so many moves from the beginning on, and who is to move then (0, if it is over).
func (d *die) played(w, h, moves int) (api.Grid, int) {
	g, _ := othello.New(w, h)
	who := 1
	for range moves {
		if who == 0 {
			break
		}
		l := plainPlaces(g, who)
		g = plainPut(g, who, l[d.below(len(l))])
		who = plainNext(g, who)
	}
	return g, who
}

func blank(w, h int) api.Grid { return api.Grid{W: w, H: h, Cells: make([]int, w*h)} }

// of rows, told as texts.
func of(t *testing.T, lines ...string) api.Grid {
	t.Helper()
	g := api.Grid{H: len(lines), W: len(lines[0])}
	for _, line := range lines {
		if len(line) != g.W {
			t.Fatalf("lines of unlike lengths: %q", lines)
		}
		for i := range len(line) {
			g.Cells = append(g.Cells, strings.IndexByte(".XO", line[i]))
		}
	}
	return g
}

func same(a, b api.Grid) bool {
	return a.W == b.W && a.H == b.H && slices.Equal(a.Cells, b.Cells)
}

func isZero(g api.Grid) bool { return g.W == 0 && g.H == 0 && len(g.Cells) == 0 }

func clone(g api.Grid) api.Grid {
	g.Cells = slices.Clone(g.Cells)
	return g
}

// with another number at a place.
func with(g api.Grid, at, sign int) api.Grid {
	g = clone(g)
	g.Cells[at] = sign
	return g
}

// wrong boards, of each kind of fault.
func wrong() map[string]api.Grid {
	all := map[string]api.Grid{
		"nothing":                   {},
		"columns below 0":           {W: -4, H: 4, Cells: make([]int, 16)},
		"both sides below 0":        {W: -4, H: -4, Cells: make([]int, 16)},
		"sides whose product wraps": {W: 1 << 32, H: 1 << 32},
		"sides that wrap to one":    {W: math.MaxInt, H: math.MaxInt, Cells: []int{0}},
		"the least sides":           {W: math.MinInt, H: math.MinInt},
		"no numbers":                {W: 4, H: 4},
		"a number short":            {W: 4, H: 4, Cells: make([]int, 15)},
		"a number too many":         {W: 4, H: 4, Cells: make([]int, 17)},
		"very many numbers":         {W: 4, H: 4, Cells: make([]int, 1<<16)},
		"a number below 0":          with(blank(4, 4), 0, -1),
		"a 3":                       with(blank(6, 4), 5, 3),
		"a 3 at the end":            with(blank(4, 8), 31, 3),
		"the greatest number":       with(blank(8, 8), 63, math.MaxInt),
		"the least number":          with(blank(4, 4), 7, math.MinInt),
		"the letter of a sign":      with(blank(4, 4), 7, 'X'),
		"columns and rows changed":  {W: 4, H: 6, Cells: make([]int, 16)},
	}
	for w := range 13 {
		for h := range 13 {
			if !fine(w) || !fine(h) {
				all[fmt.Sprint("sides ", w, h)] = blank(w, h)
			}
		}
	}
	return all
}

func fine(side int) bool { return side == 4 || side == 6 || side == 8 }

// strange numbers, of none of which there is a player, or a place.
func strange() []int { return []int{math.MinInt, -1 << 32, -2, -1, 1 << 32, 1<<32 + 1, math.MaxInt} }

// plainTurned: which signs of the other a sign would turn, if it stood at a place.
func plainTurned(g api.Grid, who, at int) []int {
	var l []int
	if g.Cells[at] != 0 {
		return l
	}
	for right := -1; right <= 1; right++ {
		for down := -1; down <= 1; down++ {
			var between []int
			x, y := at%g.W+right, at/g.W+down
			for x >= 0 && x < g.W && y >= 0 && y < g.H && g.Cells[y*g.W+x] == 3-who {
				between = append(between, y*g.W+x)
				x, y = x+right, y+down
			}
			if x >= 0 && x < g.W && y >= 0 && y < g.H && g.Cells[y*g.W+x] == who {
				l = append(l, between...)
			}
		}
	}
	return l
}

func plainPlaces(g api.Grid, who int) []int {
	var l []int
	for at := range g.Cells {
		if len(plainTurned(g, who, at)) > 0 {
			l = append(l, at)
		}
	}
	return l
}

func plainPut(g api.Grid, who, at int) api.Grid {
	x := clone(g)
	x.Cells[at] = who
	for _, other := range plainTurned(g, who, at) {
		x.Cells[other] = who
	}
	return x
}

func plainNext(g api.Grid, who int) int {
	if len(plainPlaces(g, 3-who)) > 0 {
		return 3 - who
	}
	if len(plainPlaces(g, who)) > 0 {
		return who
	}
	return 0
}

// mirrors of a board: each tells where a place comes to lie. The board of the last one has its sides changed.
func mirrors(g api.Grid) []func(at int) int {
	return []func(at int) int{
		func(at int) int { return at - at%g.W + g.W - 1 - at%g.W },
		func(at int) int { return (g.H-1-at/g.W)*g.W + at%g.W },
		func(at int) int { return at%g.W*g.H + at/g.W },
	}
}

func mirrored(g api.Grid, to func(at int) int) api.Grid {
	m := blank(g.W, g.H)
	if to(g.W-1) == (g.W-1)*g.H {
		m.W, m.H = g.H, g.W
	}
	for at, sign := range g.Cells {
		m.Cells[to(at)] = sign
	}
	return m
}

// P11.1

func TestNew(t *testing.T) {
	for _, c := range []struct {
		w, h int
		want api.Grid
	}{
		{4, 4, of(t, "....", ".OX.", ".XO.", "....")},
		{6, 4, of(t, "......", "..OX..", "..XO..", "......")},
		{4, 6, of(t, "....", "....", ".OX.", ".XO.", "....", "....")},
		{6, 6, of(t, "......", "......", "..OX..", "..XO..", "......", "......")},
		{8, 4, of(t, "........", "...OX...", "...XO...", "........")},
		{4, 8, of(t, "....", "....", "....", ".OX.", ".XO.", "....", "....", "....")},
		{8, 8, of(t, "........", "........", "........", "...OX...", "...XO...", "........", "........", "........")},
	} {
		if g, e := othello.New(c.w, c.h); !same(g, c.want) || e != api.OK {
			t.Errorf("New(%d, %d) = %v, %d; want %v", c.w, c.h, g, e, c.want)
		}
	}
	sides := strange()
	for side := range 14 {
		sides = append(sides, side)
	}
	for _, w := range sides {
		for _, h := range sides {
			g, e := othello.New(w, h)
			if fine(w) && fine(h) {
				if g.W != w || g.H != h || len(g.Cells) != w*h || e != api.OK {
					t.Errorf("New(%d, %d) = %v, %d", w, h, g, e)
				}
			} else if !isZero(g) || e != api.ErrRange {
				t.Errorf("New(%d, %d) = %v, %d; want ErrRange", w, h, g, e)
			}
		}
	}
}

func TestPlaces(t *testing.T) {
	begin, _ := othello.New(4, 4)
	wide, _ := othello.New(8, 8)
	for _, c := range []struct {
		what string
		g    api.Grid
		who  int
		want []int
	}{
		{"the chapter's example", begin, 1, []int{1, 4, 11, 14}},
		{"the other at the beginning", begin, 2, []int{2, 7, 8, 13}},
		{"the widest board", wide, 1, []int{19, 26, 37, 44}},
		{"nothing stands there", blank(4, 6), 1, nil},
		{"nothing to turn", of(t, "X...", "....", "....", "...."), 1, nil},
		{"nothing of its own", of(t, ".O..", "..O.", "....", "...."), 1, nil},
		{"a full board", of(t, "XXXX", "XXXX", "OOOO", "OOOX"), 2, nil},
		{"to the right and to the left", of(t, "....", "XO..", "..OX", "...."), 1, []int{6, 9}},
		{"up and down", of(t, ".X..", ".O..", "..O.", "..X."), 1, []int{6, 9}},
		{"slanting down", of(t, "....", ".O..", "..X.", "...."), 2, []int{15}},
		{"slanting up", of(t, "....", ".O..", "..X.", "...."), 1, []int{0}},
		{"slanting down to the left", of(t, "....", "..O.", ".X..", "...."), 2, []int{12}},
		{"slanting up to the right", of(t, "....", "..O.", ".X..", "...."), 1, []int{3}},
		{"as far as can be", of(t, "XOOOOOO.", "........", "........", "........"), 1, []int{7}},
		{"as far down as can be", of(t, "X...", "O...", "O...", "O...", "O...", "O...", "O...", "...."), 1, []int{28}},
		{"an own one at the border, none beside", of(t, "X.OOOOOO", "........", "........", "........"), 1, nil},
		{"a gap", of(t, "XO.O", "....", "....", "...."), 1, []int{2}},
		{"a gap ahead of an own one", of(t, "X.O.", "....", "....", "...."), 1, nil},
		{"not round the right border", of(t, "......XO", "........", "........", "........"), 1, nil},
		{"not round the right border, slanting", of(t, "......X.", ".......O", "........", "........"), 1, nil},
		{"not round the left border", of(t, "........", "OX......", "........", "........"), 1, nil},
		{"not round the left border, slanting", of(t, "........", "........", "O.......", ".X......"), 1, nil},
		{"not round the border of a narrow board", of(t, "....", "..XO", "....", "...."), 1, nil},
		{"not over the upper border", of(t, ".O..", ".X..", "....", "....", "....", "....", "....", "...."), 1, nil},
		{"not over the lower border", of(t, "....", "....", "....", "....", "....", "....", ".X..", ".O.."), 1, nil},
		{"not below the last line of a low board", of(t, "........", "........", "...X....", "...O...."), 1, nil},
	} {
		if l, e := othello.Places(c.g, c.who); !slices.Equal(l, c.want) || e != api.OK {
			t.Errorf("%s: %v, %d; want %v", c.what, l, e, c.want)
		}
	}
}

func TestPlacesRefuses(t *testing.T) {
	for what, g := range wrong() {
		for _, who := range []int{0, 1, 2, 3} {
			if l, e := othello.Places(g, who); len(l) != 0 || e != api.ErrState {
				t.Errorf("Places of %s, %d: %v, %d", what, who, l, e)
			}
		}
	}
	g, _ := othello.New(4, 4)
	for _, who := range append(strange(), 0, 3) {
		if l, e := othello.Places(g, who); len(l) != 0 || e != api.ErrKind {
			t.Errorf("Places of %d: %v, %d", who, l, e)
		}
	}
}

func TestPut(t *testing.T) {
	begin, _ := othello.New(4, 4)
	star := of(t, "X..X..X.", ".O.O.O..", "..OOO...", "XOO.OOX.", "..OOO...", ".O.O.O..", "X..O..X.", "...X....")
	for _, c := range []struct {
		what    string
		g       api.Grid
		who, at int
		want    api.Grid
	}{
		{"the first move", begin, 1, 1, of(t, ".X..", ".XX.", ".XO.", "....")},
		{"the other's first move", begin, 2, 2, of(t, "..O.", ".OO.", ".XO.", "....")},
		{"all eight directions", star, 1, 27, of(t, "X..X..X.", ".X.X.X..", "..XXX...", "XXXXXXX.", "..XXX...", ".X.X.X..", "X..X..X.", "...X....")},
		{"a row that no own one ends", of(t, "XO.O", "..O.", "..O.", "..O."), 1, 2, of(t, "XXXO", "..O.", "..O.", "..O.")},
		{"a row that a gap ends", of(t, "XO.OO.X.", "........", "........", "........"), 1, 2, of(t, "XXXOO.X.", "........", "........", "........")},
		{"not behind the first own one", of(t, ".OXOX...", "........", "........", "........"), 1, 0, of(t, "XXXOX...", "........", "........", "........")},
		{"what is turned turns nothing", of(t, ".OX.", ".O..", ".X..", "...."), 1, 0, of(t, "XXX.", ".O..", ".X..", "....")},
		{"a corner", of(t, "XOO.", "..O.", ".O..", "X..."), 1, 3, of(t, "XXXX", "..X.", ".X..", "X...")},
		{"the last place", of(t, "XXXX", "XXXX", "OOOO", "XOO."), 1, 15, of(t, "XXXX", "XXXX", "OOXX", "XXXX")},
		{"the greatest of the widest", of(t, "X.......", ".O......", "..O.....", "...O....", "....O...", ".....O..", "......O.", "........"), 1, 63,
			of(t, "X.......", ".X......", "..X.....", "...X....", "....X...", ".....X..", "......X.", ".......X")},
	} {
		if g, e := othello.Put(c.g, c.who, c.at); !same(g, c.want) || e != api.OK {
			t.Errorf("%s: %v, %d; want %v", c.what, g, e, c.want)
		}
	}
}

func TestPutRefuses(t *testing.T) {
	for what, g := range wrong() {
		for _, who := range []int{0, 1, 2, 3} {
			for _, at := range []int{-1, 0, 1, 64} {
				if x, e := othello.Put(g, who, at); !isZero(x) || e != api.ErrState {
					t.Errorf("Put of %s, %d, %d: %v, %d", what, who, at, x, e)
				}
			}
		}
	}
	g, _ := othello.New(6, 4)
	for _, who := range append(strange(), 0, 3) {
		for _, at := range []int{-1, 0, 2, 8, 24} {
			if x, e := othello.Put(g, who, at); !isZero(x) || e != api.ErrKind {
				t.Errorf("Put of %d, %d: %v, %d", who, at, x, e)
			}
		}
	}
	for _, at := range append(strange(), 24, 25, 64) {
		if x, e := othello.Put(g, 1, at); !isZero(x) || e != api.ErrRange {
			t.Errorf("Put at %d: %v, %d", at, x, e)
		}
	}
	for at := range g.Cells {
		if at == 2 || at == 7 || at == 16 || at == 21 {
			continue
		}
		if x, e := othello.Put(g, 1, at); !isZero(x) || e != api.ErrRule {
			t.Errorf("Put at %d: %v, %d", at, x, e)
		}
	}
	// Signs could be turned from here, but the place is not empty.
	for _, own := range []string{"OOX.", "XOX."} {
		if x, e := othello.Put(of(t, own, "....", "....", "...."), 1, 0); !isZero(x) || e != api.ErrRule {
			t.Errorf("Put where a sign stands: %v, %d", x, e)
		}
	}
}

func TestPlacesAndPutOfMany(t *testing.T) {
	d := die(111)
	some, none, refused := 0, 0, 0
	for i := range 6000 {
		g, who := d.drawn(), 1+d.below(2)
		if i%3 == 0 {
			g, _ = d.played(d.side(), d.side(), d.below(60))
		}
		want := plainPlaces(g, who)
		if l, e := othello.Places(g, who); !slices.Equal(l, want) || e != api.OK {
			t.Fatalf("Places(%v, %d) = %v, %d; want %v", g, who, l, e, want)
		}
		if len(want) > 0 {
			some++
		} else {
			none++
		}
		for at := range g.Cells {
			x, e := othello.Put(g, who, at)
			if !slices.Contains(want, at) {
				refused++
				if !isZero(x) || e != api.ErrRule {
					t.Fatalf("Put(%v, %d, %d) = %v, %d; want ErrRule", g, who, at, x, e)
				}
			} else if put := plainPut(g, who, at); !same(x, put) || e != api.OK {
				t.Fatalf("Put(%v, %d, %d) = %v, %d; want %v", g, who, at, x, e, put)
			}
		}
	}
	if some < 1000 || none < 300 || refused < 1000 {
		t.Errorf("%d with places, %d without, %d refused", some, none, refused)
	}
}

func TestNoSignIsLost(t *testing.T) {
	d := die(112)
	for range 300 {
		g, _ := othello.New(d.side(), d.side())
		for who, made := 1, 0; who > 0; made++ {
			l, _ := othello.Places(g, who)
			at := l[d.below(len(l))]
			x, e := othello.Put(g, who, at)
			if e != api.OK || x.Cells[at] != who {
				t.Fatalf("Put(%v, %d, %d) = %v, %d", g, who, at, x, e)
			}
			signs, changed := 0, 0
			for place, sign := range x.Cells {
				if sign > 0 {
					signs++
				}
				if sign != g.Cells[place] {
					changed++
					if sign != who {
						t.Fatalf("Put(%v, %d, %d) took a sign away: %v", g, who, at, x)
					}
				}
			}
			if signs != 5+made || changed < 2 {
				t.Fatalf("Put(%v, %d, %d) = %v: %d signs after %d moves, %d changed", g, who, at, x, signs, made+1, changed)
			}
			g = x
			who, _ = othello.Next(g, who)
		}
	}
}

func TestMirroredBoardsHaveMirroredMoves(t *testing.T) {
	d := die(113)
	for range 1000 {
		g, who := d.drawn(), 1+d.below(2)
		l, _ := othello.Places(g, who)
		n, _ := othello.Count(g, who, 3)
		value, place, _ := othello.Best(g, who, 3)
		next, _ := othello.Next(g, who)
		for _, to := range mirrors(g) {
			m := mirrored(g, to)
			want := make([]int, len(l))
			for i, at := range l {
				want[i] = to(at)
			}
			slices.Sort(want)
			if p, e := othello.Places(m, who); !slices.Equal(p, want) || e != api.OK {
				t.Fatalf("%v has moves %v; mirrored, %v: %v, %d", g, l, m, p, e)
			}
			for _, at := range l {
				x, _ := othello.Put(g, who, at)
				if y, e := othello.Put(m, who, to(at)); !same(y, mirrored(x, to)) || e != api.OK {
					t.Fatalf("Put(%v, %d, %d) = %v; mirrored: %v, %d", g, who, at, x, y, e)
				}
			}
			k, _ := othello.Count(m, who, 3)
			v, p, _ := othello.Best(m, who, 3)
			w, _ := othello.Next(m, who)
			if k != n || v != value || p < 0 != (place < 0) || w != next {
				t.Fatalf("%v: %d, %d, %d, %d; mirrored: %d, %d, %d, %d", g, n, value, place, next, k, v, p, w)
			}
		}
	}
}

// P11.2

func TestNext(t *testing.T) {
	begin, _ := othello.New(8, 8)
	for _, c := range []struct {
		what      string
		g         api.Grid
		who, want int
	}{
		{"the other can, behind the first's move", begin, 1, 2},
		{"the other can, behind the second's move", begin, 2, 1},
		{"the other can, who cannot", of(t, "OX..", "....", "....", "...."), 1, 2},
		{"the other cannot, who can", of(t, "XO..", "....", "....", "...."), 1, 1},
		{"the other cannot, the second can", of(t, "OX..", "....", "....", "...."), 2, 2},
		{"nothing stands there", blank(4, 4), 1, 0},
		{"signs of the first alone", of(t, "XX..", "X...", "....", "...."), 1, 0},
		{"signs of the first alone, behind the second's move", of(t, "XX..", "X...", "....", "...."), 2, 0},
		{"signs of both, far from each other", of(t, "X...", "....", "....", "...O"), 1, 0},
		{"a full board", of(t, "XOXO", "OXOX", "XXXX", "OOOO"), 2, 0},
		{"a place is empty, of no use to either", of(t, "XXXX", "XXXX", "OOXX", "XXX."), 2, 0},
	} {
		if next, e := othello.Next(c.g, c.who); next != c.want || e != api.OK {
			t.Errorf("%s: %d, %d; want %d", c.what, next, e, c.want)
		}
	}
}

func TestNextOfMany(t *testing.T) {
	d := die(114)
	var other, again, over int
	for i := range 20000 {
		g, who := d.drawn(), 1+d.below(2)
		if i%4 == 0 {
			g, _ = d.played(d.side(), 4, 4+d.below(30))
		}
		next, e := othello.Next(g, who)
		if want := plainNext(g, who); next != want || e != api.OK {
			t.Fatalf("Next(%v, %d) = %d, %d; want %d", g, who, next, e, want)
		}
		switch next {
		case who:
			again++
		case 0:
			over++
		default:
			other++
		}
	}
	if other < 1000 || again < 300 || over < 1000 {
		t.Errorf("%d times the other, %d times who, %d times over", other, again, over)
	}
}

func TestNextRefuses(t *testing.T) {
	for what, g := range wrong() {
		for _, who := range []int{0, 1, 2, 3} {
			if next, e := othello.Next(g, who); next != 0 || e != api.ErrState {
				t.Errorf("Next of %s, %d: %d, %d", what, who, next, e)
			}
		}
	}
	g, _ := othello.New(4, 4)
	for _, who := range append(strange(), 0, 3) {
		if next, e := othello.Next(g, who); next != 0 || e != api.ErrKind {
			t.Errorf("Next of %d: %d, %d", who, next, e)
		}
	}
}

func TestCount(t *testing.T) {
	begin, _ := othello.New(8, 8)
	for plies, want := range []int{1, 4, 12, 56, 244, 1396, 8200} {
		for who := 1; who <= 2; who++ {
			if n, e := othello.Count(begin, who, plies); n != want || e != api.OK {
				t.Errorf("Count of %d moves from the beginning: %d, %d; want %d", plies, n, e, want)
			}
		}
	}
	for _, c := range []struct {
		what       string
		g          api.Grid
		who, plies int
		want       int
	}{
		{"no moves", of(t, "XO..", ".O..", ".X..", "...."), 1, 0, 1},
		{"no moves, where nobody can", blank(4, 4), 1, 0, 1},
		{"nobody can: the row ends at once", blank(4, 4), 1, 1, 1},
		{"nobody can, however many", blank(4, 4), 2, 6, 1},
		{"a full board", of(t, "XXXX", "XXXX", "OOOO", "OOOO"), 1, 3, 1},
		{"one move", of(t, "XO..", "....", "....", "...."), 1, 1, 1},
		{"one move, then it is over", of(t, "XO..", "....", "....", "...."), 1, 2, 1},
		{"rows that end short, unlike ones", of(t, "XO..", "....", ".OX.", "...."), 1, 2, 2},
		{"who passes at first", of(t, "XO..", "....", "....", "...."), 2, 1, 1},
		{"who passes, the other has two", of(t, "XO..", "O...", "....", "...."), 2, 1, 2},
		{"who passes, the other moves twice", of(t, "XO..", "O...", "....", "...."), 2, 2, 2},
		{"passed between two moves", of(t, "XO..", "....", "....", "XO.."), 1, 2, 2},
		{"passed once more", of(t, "XO..", "....", "....", "XO.."), 1, 3, 2},
	} {
		if n, e := othello.Count(c.g, c.who, c.plies); n != c.want || e != api.OK {
			t.Errorf("%s: %d, %d; want %d", c.what, n, e, c.want)
		}
	}
}

// plainCount makes the moves one by one.
func plainCount(g api.Grid, who, plies int) int {
	if plies == 0 {
		return 1
	}
	if len(plainPlaces(g, who)) == 0 {
		who = 3 - who
	}
	l := plainPlaces(g, who)
	if len(l) == 0 {
		return 1
	}
	n := 0
	for _, at := range l {
		n += plainCount(plainPut(g, who, at), 3-who, plies-1)
	}
	return n
}

// looked at: a board, who moves, and how far. What the plain ways can look at in time is small, or looked at less deep.
func (d *die) looked() (api.Grid, int, int) {
	who := 1 + d.below(2)
	switch d.below(4) {
	case 0:
		return d.drawn(), who, d.below(3)
	case 1:
		return d.sized(4, 4), who, d.below(api.MaxDeep)
	case 2:
		g, next := d.played(4, 4, 3+d.below(10))
		if d.below(4) > 0 && next > 0 {
			who = next
		}
		return g, who, d.below(api.MaxDeep + 1)
	}
	g, _ := d.played(6, 4, 14+d.below(7))
	return g, who, d.below(api.MaxDeep + 1)
}

func TestCountOfMany(t *testing.T) {
	d := die(115)
	passes, short := 0, 0
	for range 1500 {
		g, who, plies := d.looked()
		n, e := othello.Count(g, who, plies)
		if want := plainCount(g, who, plies); n != want || e != api.OK {
			t.Fatalf("Count(%v, %d, %d) = %d, %d; want %d", g, who, plies, n, e, want)
		}
		switch own, next := len(plainPlaces(g, who)), plainNext(g, who); {
		case plies > 0 && next == 0:
			short++
		case plies > 0 && own == 0:
			passes++
		}
	}
	if passes < 50 || short < 50 {
		t.Errorf("%d times who passes, %d times nobody can", passes, short)
	}
}

// Count is the sum over all first moves, told by the other calls.
func TestCountIsTheSumOverAllFirstMoves(t *testing.T) {
	d := die(116)
	for range 300 {
		g, who := d.played(d.side(), d.side(), d.below(40))
		if who == 0 {
			continue
		}
		for plies := 1; plies <= 4; plies++ {
			sum := 0
			l, _ := othello.Places(g, who)
			for _, at := range l {
				x, _ := othello.Put(g, who, at)
				n, _ := othello.Count(x, 3-who, plies-1)
				sum += n
			}
			if n, e := othello.Count(g, who, plies); n != sum || e != api.OK {
				t.Fatalf("Count(%v, %d, %d) = %d, %d; the sum is %d", g, who, plies, n, e, sum)
			}
		}
	}
}

func TestCountRefuses(t *testing.T) {
	for what, g := range wrong() {
		for _, who := range []int{0, 1, 2, 3} {
			for _, plies := range []int{-1, 0, 2, 7} {
				if n, e := othello.Count(g, who, plies); n != 0 || e != api.ErrState {
					t.Errorf("Count of %s, %d, %d: %d, %d", what, who, plies, n, e)
				}
			}
		}
	}
	g, _ := othello.New(4, 4)
	for _, who := range append(strange(), 0, 3) {
		for _, plies := range []int{-1, 0, 2, 7} {
			if n, e := othello.Count(g, who, plies); n != 0 || e != api.ErrKind {
				t.Errorf("Count of %d, %d: %d, %d", who, plies, n, e)
			}
		}
	}
	for _, plies := range append(strange(), 7, 8) {
		for _, g := range []api.Grid{g, blank(4, 4)} {
			if n, e := othello.Count(g, 1, plies); n != 0 || e != api.ErrRange {
				t.Errorf("Count of %d moves: %d, %d", plies, n, e)
			}
		}
	}
}

// P11.3

func TestBest(t *testing.T) {
	begin, _ := othello.New(8, 8)
	small, _ := othello.New(4, 4)
	for _, c := range []struct {
		what         string
		g            api.Grid
		who, deep    int
		value, place int
	}{
		{"the beginning, nobody looks", begin, 1, 0, 0, -1},
		{"the beginning, one move", begin, 1, 1, 3, 19},
		{"the beginning, the second to move", begin, 2, 1, 3, 20},
		{"the beginning, two moves", begin, 1, 2, 0, 19},
		{"a small board, one move", small, 1, 1, 3, 1},
		{"nobody looks, though there is a move", of(t, "XO..", "....", "....", "...."), 1, 0, 0, -1},
		{"nobody looks, the first is ahead", of(t, "XXX.", "OX..", "....", "...."), 1, 0, 3, -1},
		{"nobody looks, the second is behind", of(t, "XXX.", "OX..", "....", "...."), 2, 0, -3, -1},
		{"the greater row", of(t, "XO......", "XOO.....", "........", "........"), 1, 1, 4, 11},
		{"the first of two alike", of(t, "XOO.....", "........", "........", "XOO....."), 1, 1, 3, 3},
		{"over: nothing stands there", blank(4, 4), 1, 6, 0, -1},
		{"over: signs of the first alone", of(t, "XX..", "X...", "....", "...."), 1, 6, 3, -1},
		{"over: for the second", of(t, "XX..", "X...", "....", "...."), 2, 6, -3, -1},
		{"over: empty places are nobody's", of(t, "XXXX", "XXXX", "OOXX", "XXX."), 1, 3, 11, -1},
		{"over: a full board", of(t, "XXXX", "XXXX", "OOOO", "XXOO"), 2, 6, -4, -1},
		{"over behind one move", of(t, "XO..", "....", "....", "...."), 1, 6, 3, 2},
		{"who passes", of(t, "XO..", "....", "....", "...."), 2, 1, -3, -1},
		{"who passes, nobody looks", of(t, "XO..", "....", "....", "...."), 2, 0, 0, -1},
		{"who passes, the other moves twice", of(t, "XOO.....", "........", "........", "XOO....."), 2, 2, -8, -1},
		{"who passes: that is no move", of(t, "XOO.....", "........", "........", "XOO....."), 2, 1, -3, -1},
		{"the other passes, who moves twice", of(t, "XOO.....", "........", "........", "XOO....."), 1, 2, 8, 3},
	} {
		value, place, e := othello.Best(c.g, c.who, c.deep)
		if value != c.value || place != c.place || e != api.OK {
			t.Errorf("%s: %d, %d, %d; want %d, %d", c.what, value, place, e, c.value, c.place)
		}
	}
}

// plainBest tries everything.
func plainBest(g api.Grid, who, deep int) (int, int) {
	lead := 0
	for _, sign := range g.Cells {
		switch sign {
		case who:
			lead++
		case 3 - who:
			lead--
		}
	}
	l := plainPlaces(g, who)
	switch {
	case deep == 0, plainNext(g, who) == 0:
		return lead, -1
	case len(l) == 0:
		value, _ := plainBest(g, 3-who, deep)
		return -value, -1
	}
	best, place := 0, -1
	for _, at := range l {
		value, _ := plainBest(plainPut(g, who, at), 3-who, deep-1)
		if place < 0 || -value > best {
			best, place = -value, at
		}
	}
	return best, place
}

func TestBestOfMany(t *testing.T) {
	d := die(117)
	var moved, passed, over, notFirst, notGreedy int
	for range 2500 {
		g, who, deep := d.looked()
		value, place, e := othello.Best(g, who, deep)
		want, at := plainBest(g, who, deep)
		if value != want || place != at || e != api.OK {
			t.Fatalf("Best(%v, %d, %d) = %d, %d, %d; want %d, %d", g, who, deep, value, place, e, want, at)
		}
		l := plainPlaces(g, who)
		switch {
		case deep == 0:
		case plainNext(g, who) == 0:
			over++
		case len(l) == 0:
			passed++
		default:
			moved++
			if place != l[0] {
				notFirst++
			}
			if _, greedy := plainBest(g, who, 1); greedy != place {
				notGreedy++
			}
		}
	}
	if moved < 500 || passed < 50 || over < 50 || notFirst < 100 || notGreedy < 100 {
		t.Errorf("%d moved, %d passed, %d over, %d not the first place, %d not the greatest at once", moved, passed, over, notFirst, notGreedy)
	}
}

func TestBestOfTheWidest(t *testing.T) {
	g := of(t, "........", ".OX.OOX.", ".OX.XOO.", ".XO..OX.", "..O.XOO.", ".O..OXX.", "OXX..XO.", "X.OX....")
	for who := 1; who <= 2; who++ {
		for deep := 1; deep <= api.MaxDeep; deep++ {
			value, place, e := othello.Best(g, who, deep)
			best, at := -65, -1
			l, _ := othello.Places(g, who)
			for _, p := range l {
				x, _ := othello.Put(g, who, p)
				if v, _, _ := othello.Best(x, 3-who, deep-1); -v > best {
					best, at = -v, p
				}
			}
			if value != best || place != at || e != api.OK {
				t.Errorf("%d deep, %d: %d, %d, %d; want %d, %d", deep, who, value, place, e, best, at)
			}
		}
	}
}

func TestValuesAreOppositeWhereNobodyLooks(t *testing.T) {
	d := die(118)
	for range 2000 {
		g := d.drawn()
		a, p, e := othello.Best(g, 1, 0)
		b, q, f := othello.Best(g, 2, 0)
		if a != -b || p != -1 || q != -1 || e != api.OK || f != api.OK {
			t.Fatalf("%v is worth %d, %d, %d to 1, and %d, %d, %d to 2", g, a, p, e, b, q, f)
		}
	}
}

func TestBestRefuses(t *testing.T) {
	for what, g := range wrong() {
		for _, who := range []int{0, 1, 2, 3} {
			for _, deep := range []int{-1, 0, 2, 7} {
				if value, place, e := othello.Best(g, who, deep); value != 0 || place != 0 || e != api.ErrState {
					t.Errorf("Best of %s, %d, %d: %d, %d, %d", what, who, deep, value, place, e)
				}
			}
		}
	}
	g, _ := othello.New(4, 4)
	for _, who := range append(strange(), 0, 3) {
		for _, deep := range []int{-1, 0, 2, 7} {
			if value, place, e := othello.Best(g, who, deep); value != 0 || place != 0 || e != api.ErrKind {
				t.Errorf("Best of %d, %d: %d, %d, %d", who, deep, value, place, e)
			}
		}
	}
	for _, deep := range append(strange(), 7, 8) {
		for _, g := range []api.Grid{g, blank(4, 4)} {
			if value, place, e := othello.Best(g, 1, deep); value != 0 || place != 0 || e != api.ErrRange {
				t.Errorf("Best, %d deep: %d, %d, %d", deep, value, place, e)
			}
		}
	}
}

// What holds everywhere.

func TestListsAreLeftAlone(t *testing.T) {
	d := die(119)
	for range 300 {
		g, who := d.drawn(), 1+d.below(2)
		before := slices.Clone(g.Cells)
		g.Cells = roomy(g.Cells)
		othello.Places(g, who)
		for at := range g.Cells {
			othello.Put(g, who, at)
		}
		othello.Next(g, who)
		othello.Count(g, who, 2)
		othello.Best(g, who, 2)
		untouched(t, "a call", g.Cells, before)
	}
	before := with(blank(4, 4), 3, 3)
	bad := api.Grid{W: 4, H: 4, Cells: roomy(before.Cells)}
	othello.Places(bad, 1)
	othello.Put(bad, 1, 1)
	othello.Next(bad, 1)
	othello.Count(bad, 1, 2)
	othello.Best(bad, 1, 2)
	untouched(t, "a call that refuses", bad.Cells, before.Cells)
}

// A board that is changed while it is looked at, and then put right, is seen by others that look at it meanwhile.
func TestManyLookAtOneBoard(t *testing.T) {
	g, _ := othello.New(6, 6)
	ask := func() string {
		l, e := othello.Places(g, 1)
		x, f := othello.Put(g, 1, l[0])
		next, h := othello.Next(g, 1)
		n, i := othello.Count(g, 1, 5)
		value, place, j := othello.Best(g, 1, 5)
		return fmt.Sprint(l, e, x, f, next, h, n, i, value, place, j, g)
	}
	want := ask()
	var told [8]string
	var all sync.WaitGroup
	for i := range told {
		all.Go(func() { told[i] = ask() + ask() })
	}
	all.Wait()
	for _, text := range told {
		if text != want+want {
			t.Fatalf("told %s; want %s twice", text, want)
		}
	}
}

func TestAnswersAreNew(t *testing.T) {
	g, _ := othello.New(4, 4)
	before := slices.Clone(g.Cells)
	all := func() string {
		begin, _ := othello.New(4, 4)
		l, _ := othello.Places(g, 1)
		x, _ := othello.Put(g, 1, 4)
		told := fmt.Sprint(begin, l, x)
		scribble(begin.Cells)
		scribble(l)
		scribble(x.Cells)
		return told
	}
	if a, b := all(), all(); a != b {
		t.Errorf("asked again: %s, then %s", a, b)
	}
	if !slices.Equal(g.Cells, before) {
		t.Errorf("an answer shares what was handed in: %v", g.Cells)
	}
}
