package stones_test

import (
	"fmt"
	"math"
	"slices"
	"strings"
	"sync"
	"testing"

	"gameroom/api"
	"gameroom/stones"
)

const spare = -77

// roomy gives a list with spare room, so that a call that writes behind its end is found out.
func roomy(l []int) []int {
	r := make([]int, len(l)+8)
	copy(r, l)
	for i := len(l); i < len(r); i++ {
		r[i] = spare
	}
	return r[:len(l)]
}

func untouched(t *testing.T, what string, l, before []int) {
	t.Helper()
	if !slices.Equal(l, before) {
		t.Errorf("%s changed what was handed in: %v, was %v", what, l, before)
	}
	for _, x := range l[len(l):cap(l)] {
		if x != spare {
			t.Errorf("%s wrote into the spare room of what was handed in", what)
			return
		}
	}
}

// scribble overwrites a list and its spare room.
func scribble(l []int) {
	l = l[:cap(l)]
	for i := range l {
		l[i] = spare
	}
}

// die gives numbers that look drawn, the same each time.
type die uint64

func (d *die) below(n int) int {
	*d = *d*6364136223846793005 + 1442695040888963407
	return int(uint64(*d>>33) % uint64(n))
}

// drawn board, with few stones or many; no play need lead there.
func (d *die) drawn(w, h int) api.Grid {
	g := blank(w, h)
	kinds := [][]int{{0, 1, 2}, {1, 2}, {0, 1, 2, 2, 2}, {0, 1, 1, 1, 2}, {0, 0, 0, 1, 2}, {0, 1, 1, 1, 1, 1}, {0, 2, 2, 2, 2, 2}, {0, 1, 1, 1, 2, 2, 2}}[d.below(8)]
	for i := range g.Cells {
		g.Cells[i] = kinds[d.below(len(kinds))]
	}
	return g
}

// any drawn board of any size.
func (d *die) any() api.Grid { return d.drawn(1+d.below(10), 1+d.below(10)) }

func blank(w, h int) api.Grid { return api.Grid{W: w, H: h, Cells: make([]int, w*h)} }

// of rows, told as texts.
func of(t *testing.T, lines ...string) api.Grid {
	t.Helper()
	g := api.Grid{H: len(lines), W: len(lines[0])}
	for _, line := range lines {
		if len(line) != g.W {
			t.Fatalf("lines of unlike lengths: %q", lines)
		}
		for i := range len(line) {
			g.Cells = append(g.Cells, strings.IndexByte(".XO", line[i]))
		}
	}
	return g
}

// with another number at a place.
func with(g api.Grid, at, sign int) api.Grid {
	g.Cells = slices.Clone(g.Cells)
	g.Cells[at] = sign
	return g
}

func same(a, b api.Grid) bool { return a.W == b.W && a.H == b.H && slices.Equal(a.Cells, b.Cells) }

func isNothing(g api.Grid) bool { return g.W == 0 && g.H == 0 && len(g.Cells) == 0 }

// wrong boards, of each kind of fault.
func wrong() map[string]api.Grid {
	return map[string]api.Grid{
		"nothing":                   {},
		"no sides, and a number":    {Cells: []int{0}},
		"no columns":                {W: 0, H: 3},
		"no rows":                   {W: 3, H: 0},
		"columns below 0":           {W: -3, H: 3, Cells: make([]int, 9)},
		"both sides below 0":        {W: -3, H: -3, Cells: make([]int, 9)},
		"eleven columns":            blank(11, 1),
		"eleven rows":               blank(1, 11),
		"sides whose product wraps": {W: 1 << 32, H: 1 << 32},
		"sides that wrap to one":    {W: math.MaxInt, H: math.MaxInt, Cells: []int{0}},
		"the least sides":           {W: math.MinInt, H: math.MinInt},
		"no numbers":                {W: 3, H: 3},
		"a number short":            {W: 3, H: 2, Cells: make([]int, 5)},
		"a number too many":         {W: 3, H: 2, Cells: make([]int, 7)},
		"very many numbers":         {W: 10, H: 10, Cells: make([]int, 1<<16)},
		"a number below 0":          with(blank(2, 2), 0, -1),
		"a 3":                       with(blank(3, 2), 5, 3),
		"a 3 at the end":            with(blank(10, 10), 99, 3),
		"the greatest number":       with(blank(1, 1), 0, math.MaxInt),
		"the least number":          with(blank(1, 1), 0, math.MinInt),
		"the letter of a sign":      with(blank(4, 4), 7, 'X'),
	}
}

// strangers: numbers that are no player.
func strangers() []int { return []int{math.MinInt, -2, -1, 0, 3, 4, 'X', 1 << 32, math.MaxInt} }

// outside: numbers that are no place of a board.
func outside(g api.Grid) []int {
	return []int{math.MinInt, -100, -2, -1, len(g.Cells), len(g.Cells) + 1, 100, 1 << 32, math.MaxInt}
}

// everyBoard of so many columns and rows.
func everyBoard(w, h int, tell func(g api.Grid)) {
	g := blank(w, h)
	for {
		tell(g)
		at := 0
		for at < len(g.Cells) && g.Cells[at] == 2 {
			g.Cells[at] = 0
			at++
		}
		if at == len(g.Cells) {
			return
		}
		g.Cells[at]++
	}
}

// near: are two places neighbours? Told by how far apart they are.
func near(g api.Grid, a, b int) bool {
	right, down := b%g.W-a%g.W, b/g.W-a/g.W
	return right*right+down*down == 1
}

// plainRegions: places of a kind, put together until no more come together.
func plainRegions(g api.Grid, kind func(sign int) bool) [][]int {
	leader := make([]int, len(g.Cells))
	for i := range leader {
		leader[i] = i
	}
	for changed := true; changed; {
		changed = false
		for a := range leader {
			for b := range leader {
				if kind(g.Cells[a]) && kind(g.Cells[b]) && near(g, a, b) && leader[a] < leader[b] {
					leader[b] = leader[a]
					changed = true
				}
			}
		}
	}
	var all [][]int
	for first := range leader {
		var region []int
		for at := range leader {
			if kind(g.Cells[at]) && leader[at] == first {
				region = append(region, at)
			}
		}
		if len(region) > 0 {
			all = append(all, region)
		}
	}
	return all
}

func plainGroups(g api.Grid, who int) [][]int {
	return plainRegions(g, func(sign int) bool { return sign == who })
}

// touch: is a place of one list a neighbour of one of the other?
func touch(g api.Grid, a, b []int) bool {
	return slices.ContainsFunc(a, func(x int) bool {
		return slices.ContainsFunc(b, func(y int) bool { return near(g, x, y) })
	})
}

func plainLiberties(g api.Grid, group []int) []int {
	var free []int
	for at, sign := range g.Cells {
		if sign == 0 && touch(g, []int{at}, group) {
			free = append(free, at)
		}
	}
	return free
}

// plainGroup of a place with a stone.
func plainGroup(g api.Grid, at int) []int {
	for _, group := range plainGroups(g, g.Cells[at]) {
		if slices.Contains(group, at) {
			return group
		}
	}
	return nil
}

// everyGroupHasLiberties: could a play have led there?
func everyGroupHasLiberties(g api.Grid) bool {
	for who := 1; who <= 2; who++ {
		for _, group := range plainGroups(g, who) {
			if len(plainLiberties(g, group)) == 0 {
				return false
			}
		}
	}
	return true
}

func plainPut(g api.Grid, who, at int) (api.Grid, int, api.Errno) {
	if at < 0 || at >= len(g.Cells) {
		return api.Grid{}, 0, api.ErrRange
	}
	if g.Cells[at] != 0 {
		return api.Grid{}, 0, api.ErrTwice
	}
	put := with(g, at, who)
	after, taken := put, 0
	for _, group := range plainGroups(put, 3-who) {
		if len(plainLiberties(put, group)) == 0 {
			for _, place := range group {
				after = with(after, place, 0)
				taken++
			}
		}
	}
	if len(plainLiberties(after, plainGroup(after, at))) == 0 {
		return api.Grid{}, 0, api.ErrRule
	}
	return after, taken, api.OK
}

// plainPlay keeps all boards in a list. It tells, too, how long ago the board was there that a refused move makes (0: it was not).
func plainPlay(g api.Grid, moves []int) (now api.Grid, taken [2]int, ago int, made int, e api.Errno) {
	boards := []api.Grid{g}
	for i, at := range moves {
		now = boards[len(boards)-1]
		if i >= 2 && moves[i-1] == -1 && moves[i-2] == -1 {
			return now, taken, 0, i, api.ErrOver
		}
		if at == -1 {
			boards = append(boards, now)
			continue
		}
		after, n, e := plainPut(now, 1+i%2, at)
		if e != api.OK {
			return now, taken, 0, i, e
		}
		for j, b := range boards {
			if same(b, after) {
				return now, taken, len(boards) - j, i, api.ErrRule
			}
		}
		taken[i%2] += n
		boards = append(boards, after)
	}
	return boards[len(boards)-1], taken, 0, len(moves), api.OK
}

func plainAreas(g api.Grid) [3]int {
	var n [3]int
	for at, sign := range g.Cells {
		if sign != 0 {
			n[sign]++
			continue
		}
		var region []int
		for _, l := range plainRegions(g, func(sign int) bool { return sign == 0 }) {
			if slices.Contains(l, at) {
				region = l
			}
		}
		var meets [3]int
		for other, sign := range g.Cells {
			if touch(g, region, []int{other}) {
				meets[sign] = sign
			}
		}
		n[(meets[1]+meets[2])%3]++
	}
	return n
}

// feeds: is a region an eye of a group?
func feeds(g api.Grid, region, group []int) bool {
	n := 0
	for _, at := range region {
		if g.Cells[at] == 0 {
			if !touch(g, []int{at}, group) {
				return false
			}
			n++
		}
	}
	return n > 0
}

// holdsOut: has each of some groups two eyes that touch no group but those?
func holdsOut(g api.Grid, chosen, others, regions [][]int) bool {
	for _, group := range chosen {
		eyes := 0
		for _, region := range regions {
			if feeds(g, region, group) && !touch(g, region, slices.Concat(others...)) {
				eyes++
			}
		}
		if eyes < 2 {
			return false
		}
	}
	return true
}

// plainAlive: the stones of all sets of groups that hold out together.
func plainAlive(g api.Grid, who int) []int {
	groups := plainGroups(g, who)
	regions := plainRegions(g, func(sign int) bool { return sign != who })
	var alive []int
	for set := range 1 << len(groups) {
		var chosen, others [][]int
		for i, group := range groups {
			if set>>i&1 == 1 {
				chosen = append(chosen, group)
			} else {
				others = append(others, group)
			}
		}
		if holdsOut(g, chosen, others, regions) {
			alive = append(alive, slices.Concat(chosen...)...)
		}
	}
	slices.Sort(alive)
	return slices.Compact(alive)
}

// roundsAlive leaves out by rounds: all groups at once, then all regions at once. It tells how many rounds left something out.
func roundsAlive(g api.Grid, who int) ([]int, int) {
	groups := plainGroups(g, who)
	regions := plainRegions(g, func(sign int) bool { return sign != who })
	for round := 0; ; round++ {
		var stay, lost, left [][]int
		for _, group := range groups {
			if holdsOut(g, [][]int{group}, nil, regions) {
				stay = append(stay, group)
			} else {
				lost = append(lost, group)
			}
		}
		if len(lost) == 0 {
			l := slices.Concat(groups...)
			slices.Sort(l)
			return l, round
		}
		for _, region := range regions {
			if !touch(g, region, slices.Concat(lost...)) {
				left = append(left, region)
			}
		}
		groups, regions = stay, left
	}
}

// P14.1

func TestNeighbours(t *testing.T) {
	for _, g := range []api.Grid{blank(1, 1), blank(1, 5), blank(5, 1), blank(2, 3), blank(4, 3), blank(10, 10)} {
		for a := range g.Cells {
			for b := range a {
				for who := 1; who <= 2; who++ {
					want := []int{a}
					if near(g, a, b) {
						want = []int{b, a}
					}
					if l, _, e := stones.Group(with(with(g, a, who), b, who), a); !slices.Equal(l, want) || e != api.OK {
						t.Fatalf("%d and %d, %d at %d and %d: %v, %d; want %v", g.W, g.H, who, b, a, l, e, want)
					}
				}
			}
		}
	}
}

func TestGroup(t *testing.T) {
	for _, c := range []struct {
		what      string
		g         api.Grid
		at        int
		group     []int
		liberties []int
	}{
		{"a board of one place", of(t, "X"), 0, []int{0}, nil},
		{"in the middle", of(t, "...", ".O.", "..."), 4, []int{4}, []int{1, 3, 5, 7}},
		{"in a corner", of(t, "...", "...", "..X"), 8, []int{8}, []int{5, 7}},
		{"not slanting", of(t, "X..", ".X.", "..X"), 4, []int{4}, []int{1, 3, 5, 7}},
		{"not over the border", of(t, "..X", "X..", "..."), 2, []int{2}, []int{1, 5}},
		{"a liberty of two stones, once", of(t, "XX", "X."), 2, []int{0, 1, 2}, []int{3}},
		{"asked of its last stone", of(t, "O.O", "O.O", "OOO"), 2, []int{0, 2, 3, 5, 6, 7, 8}, []int{1, 4}},
		{"the other's stones are no liberties", of(t, ".O.", "OXX", ".O."), 4, []int{4, 5}, []int{2, 8}},
		{"without liberties", of(t, "XO", "O."), 0, []int{0}, nil},
		{"own stones elsewhere", of(t, "X.X", "XOX", "X.X"), 5, []int{2, 5, 8}, []int{1, 7}},
		{"the whole board", of(t, "OO", "OO"), 3, []int{0, 1, 2, 3}, nil},
	} {
		if l, free, e := stones.Group(c.g, c.at); !slices.Equal(l, c.group) || !slices.Equal(free, c.liberties) || e != api.OK {
			t.Errorf("%s: %v, %v, %d; want %v, %v", c.what, l, free, e, c.group, c.liberties)
		}
	}
}

func TestGroupOfMany(t *testing.T) {
	d := die(141)
	longest, freest := 0, 0
	for range 600 {
		g := d.any()
		at := d.below(len(g.Cells))
		l, free, e := stones.Group(g, at)
		if g.Cells[at] == 0 {
			if len(l) != 0 || len(free) != 0 || e != api.ErrNone {
				t.Fatalf("Group(%v, %d) = %v, %v, %d", g, at, l, free, e)
			}
			continue
		}
		group := plainGroup(g, at)
		liberties := plainLiberties(g, group)
		if !slices.Equal(l, group) || !slices.Equal(free, liberties) || e != api.OK {
			t.Fatalf("Group(%v, %d) = %v, %v, %d; want %v, %v", g, at, l, free, e, group, liberties)
		}
		longest, freest = max(longest, len(l)), max(freest, len(free))
	}
	if longest < 20 || freest < 10 {
		t.Errorf("at most %d stones and %d liberties", longest, freest)
	}
}

func TestGroupRefuses(t *testing.T) {
	for what, g := range wrong() {
		for _, at := range append(outside(g), 0, 1) {
			if l, free, e := stones.Group(g, at); len(l) != 0 || len(free) != 0 || e != api.ErrState {
				t.Errorf("Group of %s, %d: %v, %v, %d", what, at, l, free, e)
			}
		}
	}
	for _, g := range []api.Grid{blank(1, 1), of(t, "X"), of(t, "XOX", "OXO"), blank(10, 10)} {
		for _, at := range outside(g) {
			if at >= 0 && at < len(g.Cells) {
				continue
			}
			if l, free, e := stones.Group(g, at); len(l) != 0 || len(free) != 0 || e != api.ErrRange {
				t.Errorf("Group at %d of %v: %v, %v, %d", at, g, l, free, e)
			}
		}
	}
	for at := range 6 {
		if l, free, e := stones.Group(blank(3, 2), at); len(l) != 0 || len(free) != 0 || e != api.ErrNone {
			t.Errorf("Group of an empty place: %v, %v, %d", l, free, e)
		}
	}
}

func TestPut(t *testing.T) {
	for _, c := range []struct {
		what  string
		g     api.Grid
		who   int
		at    int
		want  api.Grid
		taken int
	}{
		{"on an empty board", blank(3, 2), 2, 5, of(t, "...", "..O"), 0},
		{"one stone is taken", of(t, ".X.", "XO.", ".X."), 1, 5, of(t, ".X.", "X.X", ".X."), 1},
		{"in a corner", of(t, "XO", ".."), 2, 2, of(t, ".O", "O."), 1},
		{"a group is taken", of(t, ".XX.", "XOO.", ".XX."), 1, 7, of(t, ".XX.", "X..X", ".XX."), 2},
		{"one with a liberty more is not", of(t, ".X..", "XOO.", ".XX."), 1, 7, of(t, ".X..", "XOOX", ".XX."), 0},
		{"three groups at once", of(t, "XO.OX", "XXOXX", "..X.."), 1, 2, of(t, "X.X.X", "XX.XX", "..X.."), 3},
		{"its own group lives by what is taken", of(t, ".OX", "OX.", "..."), 1, 0, of(t, "X.X", "OX.", "..."), 1},
		{"it takes what surrounds it", of(t, ".O", "OO"), 1, 0, of(t, "X.", ".."), 3},
		{"own stones that have no liberty elsewhere stay", of(t, "XO.", "O..", "..."), 1, 8, of(t, "XO.", "O..", "..X"), 0},
		{"the other's that have none elsewhere are taken", of(t, "XO.", "O..", "..."), 2, 8, of(t, ".O.", "O..", "..O"), 1},
		{"and make room", of(t, "O.X", "XXX"), 1, 1, of(t, ".XX", "XXX"), 1},
		{"joined to a group that has a liberty", of(t, "X.O.", ".XO."), 1, 1, of(t, "XXO.", ".XO."), 0},
		{"the last liberty but one", of(t, "OO.", "O..", "OOO"), 2, 4, of(t, "OO.", "OO.", "OOO"), 0},
	} {
		if g, taken, e := stones.Put(c.g, c.who, c.at); !same(g, c.want) || taken != c.taken || e != api.OK {
			t.Errorf("%s: %v, %d, %d; want %v, %d", c.what, g, taken, e, c.want, c.taken)
		}
	}
}

func TestPutOfMany(t *testing.T) {
	d := die(142)
	seen := map[api.Errno]int{}
	most := 0
	for range 1500 {
		g, who := d.any(), 1+d.below(2)
		at := d.below(len(g.Cells))
		want, taken, f := plainPut(g, who, at)
		after, n, e := stones.Put(g, who, at)
		if !same(after, want) || n != taken || e != f {
			t.Fatalf("Put(%v, %d, %d) = %v, %d, %d; want %v, %d, %d", g, who, at, after, n, e, want, taken, f)
		}
		seen[e]++
		most = max(most, n)
	}
	if seen[api.OK] < 100 || seen[api.ErrTwice] < 100 || seen[api.ErrRule] < 10 || most < 10 {
		t.Errorf("too few of a kind: %v, at most %d taken", seen, most)
	}
}

func TestPutOnAllSmallBoards(t *testing.T) {
	for _, size := range [][2]int{{1, 1}, {2, 1}, {1, 4}, {2, 2}, {3, 2}} {
		everyBoard(size[0], size[1], func(g api.Grid) {
			for at := range g.Cells {
				for who := 1; who <= 2; who++ {
					want, taken, f := plainPut(g, who, at)
					if after, n, e := stones.Put(g, who, at); !same(after, want) || n != taken || e != f {
						t.Fatalf("Put(%v, %d, %d) = %v, %d, %d; want %v, %d, %d", g, who, at, after, n, e, want, taken, f)
					}
				}
			}
		})
	}
}

func TestGroupsKeepLiberties(t *testing.T) {
	d := die(143)
	moves := 0
	for range 40 {
		g, who := blank(1+d.below(10), 1+d.below(10)), 1
		for range 2 * len(g.Cells) {
			if after, _, e := stones.Put(g, who, d.below(len(g.Cells))); e == api.OK {
				g, who = after, 3-who
				moves++
			}
		}
		for at, sign := range g.Cells {
			if sign == 0 {
				continue
			}
			if _, free, e := stones.Group(g, at); len(free) == 0 || e != api.OK {
				t.Fatalf("%v: at %d no liberty is left", g, at)
			}
		}
	}
	if moves < 1000 {
		t.Errorf("only %d moves", moves)
	}
}

func TestPutRefuses(t *testing.T) {
	refused := func(what string, g api.Grid, who, at int, want api.Errno) {
		t.Helper()
		if after, taken, e := stones.Put(g, who, at); !isNothing(after) || taken != 0 || e != want {
			t.Errorf("%s: %v, %d, %d; want %d", what, after, taken, e, want)
		}
	}
	for what, g := range wrong() {
		for _, who := range append(strangers(), 1, 2) {
			for _, at := range []int{-1, 0, 1, 100} {
				refused(what, g, who, at, api.ErrState)
			}
		}
	}
	for _, who := range strangers() {
		for _, at := range []int{-1, 0, 1, 2, 3, 4} {
			refused(fmt.Sprint("player ", who), of(t, "XO", "O."), who, at, api.ErrKind)
		}
	}
	for _, g := range []api.Grid{of(t, "."), of(t, "X"), of(t, "XOX", "O.O"), blank(9, 10)} {
		for _, at := range outside(g) {
			if at < 0 || at >= len(g.Cells) {
				refused(fmt.Sprint("at ", at), g, 1, at, api.ErrRange)
			}
		}
	}
	for _, c := range []struct {
		what string
		g    api.Grid
		who  int
		at   int
		want api.Errno
	}{
		{"on an own stone", of(t, "X.", ".."), 1, 0, api.ErrTwice},
		{"on a stone of the other", of(t, "X.", ".."), 2, 0, api.ErrTwice},
		{"on a stone without liberties", of(t, "XO", "O."), 2, 0, api.ErrTwice},
		{"a board of one place", of(t, "."), 1, 0, api.ErrRule},
		{"surrounded", of(t, ".O.", "O.O", ".O."), 1, 4, api.ErrRule},
		{"surrounded in a corner", of(t, ".X", "X."), 2, 0, api.ErrRule},
		{"joined to a group whose last liberty it takes", of(t, "XX.O", "OOO."), 1, 2, api.ErrRule},
		{"the last place of an own board", of(t, "OO", "O."), 2, 3, api.ErrRule},
		{"what it touches has a liberty elsewhere", of(t, ".OX", "OOX", "X.X"), 1, 0, api.ErrRule},
	} {
		refused(c.what, c.g, c.who, c.at, c.want)
	}
}

// P14.2

// ko: two stones that could take each other for ever, at 5 (there is a white one) and 6.
func ko(t *testing.T) api.Grid { return of(t, ".XO.", "XO.O", ".XO.") }

func TestPlay(t *testing.T) {
	retaken := of(t, ".XO.", "X.XO", ".XO.")
	for _, c := range []struct {
		what  string
		g     api.Grid
		moves []int
		want  api.Grid
		taken [2]int
		made  int
		e     api.Errno
	}{
		{"no moves", of(t, "X.O"), nil, of(t, "X.O"), [2]int{}, 0, api.OK},
		{"no moves, on a board that no play leads to", of(t, "XO", "OX"), nil, of(t, "XO", "OX"), [2]int{}, 0, api.OK},
		{"black first", blank(2, 2), []int{0}, of(t, "X.", ".."), [2]int{}, 1, api.OK},
		{"black first, though white has fewer", of(t, "XX.", "..."), []int{5}, of(t, "XX.", "..X"), [2]int{}, 1, api.OK},
		{"by turns", blank(3, 2), []int{0, 5, 1, 4}, of(t, "XX.", ".OO"), [2]int{}, 4, api.OK},
		{"a pass is a turn", blank(3, 2), []int{-1, 0, -1, 1}, of(t, "OO.", "..."), [2]int{}, 4, api.OK},
		{"two passes", of(t, ".O."), []int{-1, -1}, of(t, ".O."), [2]int{}, 2, api.OK},
		{"two passes behind a stone", blank(3, 1), []int{1, -1, -1}, of(t, ".X."), [2]int{}, 3, api.OK},
		{"a stone behind two passes", blank(3, 1), []int{-1, -1, 0}, blank(3, 1), [2]int{}, 2, api.ErrOver},
		{"a third pass", blank(3, 1), []int{-1, -1, -1}, blank(3, 1), [2]int{}, 2, api.ErrOver},
		{"over, ahead of what is no place", blank(3, 1), []int{1, -1, -1, 99, 0}, of(t, ".X."), [2]int{}, 3, api.ErrOver},
		{"passes with stones between", blank(3, 2), []int{-1, 0, -1, 5, -1}, of(t, "O..", "..O"), [2]int{}, 5, api.OK},
		{"no place", blank(3, 1), []int{0, 3}, of(t, "X.."), [2]int{}, 1, api.ErrRange},
		{"below a pass", blank(3, 1), []int{-2}, blank(3, 1), [2]int{}, 0, api.ErrRange},
		{"on a stone", blank(3, 1), []int{0, 2, 2}, of(t, "X.O"), [2]int{}, 2, api.ErrTwice},
		{"no liberty", of(t, ".O.", "O..", "..."), []int{0}, of(t, ".O.", "O..", "..."), [2]int{}, 0, api.ErrRule},
		{"what is behind the refused one is not looked at", blank(3, 1), []int{0, 0, 99, -1}, of(t, "X.."), [2]int{}, 1, api.ErrTwice},
		{"both take", of(t, ".OX", "...", "XO."), []int{3, 5, 4, -1, 8}, of(t, ".O.", "XXO", "X.X"), [2]int{1, 1}, 5, api.OK},
		{"what was taken stays told", of(t, ".OX", "...", "XO."), []int{3, 5, 8}, of(t, ".O.", "X.O", "XO."), [2]int{0, 1}, 2, api.ErrRule},
		{"ko: taken", ko(t), []int{6}, retaken, [2]int{1, 0}, 1, api.OK},
		{"ko: taken back at once, which makes the first board", ko(t), []int{6, 5}, retaken, [2]int{1, 0}, 1, api.ErrRule},
		{"ko: taken back behind two stones", ko(t), []int{6, 3, 8, 5}, of(t, ".XOO", "XO.O", "XXO."), [2]int{1, 1}, 4, api.OK},
		{"ko: taken back behind a pass, which makes a board that was there", ko(t), []int{6, 3, -1, 5, 6}, of(t, ".XOO", "XO.O", ".XO."), [2]int{1, 1}, 4, api.ErrRule},
		{"a board behind the first one, made again", blank(2, 1), []int{0, 1, 0}, of(t, ".O"), [2]int{0, 1}, 2, api.ErrRule},
		{"one takes with two moves", of(t, "OOX.", "X..."), []int{-1, 3, 5, 6, 7}, of(t, "..X.", "XX.X"), [2]int{4, 0}, 5, api.OK},
	} {
		g, taken, made, e := stones.Play(c.g, c.moves)
		if !same(g, c.want) || taken != c.taken || made != c.made || e != c.e {
			t.Errorf("%s: %v, %v, %d, %d; want %v, %v, %d, %d", c.what, g, taken, made, e, c.want, c.taken, c.made, c.e)
		}
	}
}

func TestPlayOfMany(t *testing.T) {
	d := die(144)
	seen := map[api.Errno]int{}
	long, again, longAgo := 0, 0, 0
	look := func(g api.Grid, moves []int) api.Errno {
		want, taken, ago, made, f := plainPlay(g, moves)
		now, n, m, e := stones.Play(g, moves)
		if !same(now, want) || n != taken || m != made || e != f {
			t.Fatalf("Play(%v, %v) = %v, %v, %d, %d; want %v, %v, %d, %d", g, moves, now, n, m, e, want, taken, made, f)
		}
		seen[e]++
		long = max(long, m)
		if ago > 0 {
			again++
		}
		longAgo = max(longAgo, ago)
		return e
	}
	for range 3000 { // whatever they are
		g := d.drawn(1+d.below(3), 1+d.below(3))
		var moves []int
		for range d.below(20) {
			moves = append(moves, d.below(len(g.Cells)+3)-1)
		}
		look(g, moves)
	}
	// Plays that go on as long as there is a move; whatever else could be done behind each of them is looked at, too.
	for _, g := range []api.Grid{blank(2, 1), blank(1, 3), blank(2, 2), blank(3, 2), blank(2, 3), blank(1, 7), blank(3, 3), of(t, "XX.", "OO."), ko(t)} {
		for range 10 {
			var moves []int
			for fine := []int{-1}; len(fine) > 0 && len(moves) < 50; {
				fine = nil
				for at := -2; at <= len(g.Cells); at++ {
					if look(g, append(slices.Clone(moves), at)) == api.OK && (at != -1 || d.below(10) == 0) {
						fine = append(fine, at)
					}
				}
				if len(fine) > 0 {
					moves = append(moves, fine[d.below(len(fine))])
				}
			}
		}
	}
	for range 30 {
		g := blank(3+d.below(8), 3+d.below(8))
		var moves []int
		for range 60 {
			at := d.below(len(g.Cells))
			if _, _, _, e := stones.Play(g, append(moves, at)); e == api.OK {
				moves = append(moves, at)
			}
		}
		look(g, moves)
	}
	for _, e := range []api.Errno{api.OK, api.ErrRange, api.ErrTwice, api.ErrRule, api.ErrOver} {
		if seen[e] < 50 {
			t.Errorf("too few of a kind: %v", seen)
		}
	}
	if long < 40 || again < 50 || longAgo < 6 {
		t.Errorf("at most %d moves; %d boards were there before, at most %d moves ago", long, again, longAgo)
	}
}

// A board that was there is asked for after each move that may be made on a small board, to the end of all such plays.
func TestNoBoardComesAgain(t *testing.T) {
	for _, g := range []api.Grid{blank(1, 1), blank(2, 1), blank(3, 1), blank(1, 4), of(t, ".X", "O.")} {
		var moves []int
		plays := 0
		var walk func()
		walk = func() {
			if len(moves) == 9 {
				return
			}
			for at := -1; at <= len(g.Cells); at++ {
				moves = append(moves, at)
				plays++
				want, taken, _, made, f := plainPlay(g, moves)
				now, n, m, e := stones.Play(g, moves)
				if !same(now, want) || n != taken || m != made || e != f {
					t.Fatalf("Play(%v, %v) = %v, %v, %d, %d; want %v, %v, %d, %d", g, moves, now, n, m, e, want, taken, made, f)
				}
				if e == api.OK {
					walk()
				}
				moves = moves[:len(moves)-1]
			}
		}
		walk()
		if plays < 5 {
			t.Errorf("only %d plays", plays)
		}
	}
}

// longPlay of 200 moves on the greatest board: black fills it but for one place, and white, who passes, takes all at last.
func longPlay() []int {
	var moves []int
	for at := range 99 {
		moves = append(moves, at, -1)
	}
	moves[len(moves)-1] = 99
	return append(moves, 0, 1)
}

func TestPlayOfManyMoves(t *testing.T) {
	g := blank(10, 10)
	moves := longPlay()
	want := with(with(with(g, 0, 1), 1, 2), 99, 2)
	now, n, made, e := stones.Play(g, moves)
	if !same(now, want) || n != [2]int{0, 99} || made != 200 || e != api.OK {
		t.Errorf("200 moves: %v, %v, %d, %d", now, n, made, e)
	}
	for what, l := range map[string][]int{
		"a pass more":                     append(slices.Clone(moves), -1),
		"a number more that is no place":  append(slices.Clone(moves), 100),
		"201 passes":                      slices.Repeat([]int{-1}, 201),
		"201 numbers that are no places":  slices.Repeat([]int{-2}, 201),
		"201 stones at one place":         slices.Repeat([]int{0}, 201),
		"very many":                       slices.Repeat([]int{0}, 1<<20),
		"201, the first one is no place":  append([]int{100}, moves...),
		"201, the first one is not empty": append([]int{moves[0]}, moves...),
	} {
		if now, n, made, e := stones.Play(g, l); !isNothing(now) || n != [2]int{} || made != 0 || e != api.ErrCount {
			t.Errorf("%s: %v, %v, %d, %d", what, now, n, made, e)
		}
	}
	for what, c := range map[string]struct {
		moves []int
		made  int
		e     api.Errno
	}{
		"200 passes":                     {slices.Repeat([]int{-1}, 200), 2, api.ErrOver},
		"200 numbers that are no places": {slices.Repeat([]int{100}, 200), 0, api.ErrRange},
		"200, the last is no place":      {append(slices.Clone(moves[:199]), 100), 199, api.ErrRange},
	} {
		if _, _, made, e := stones.Play(g, c.moves); made != c.made || e != c.e {
			t.Errorf("%s: %d, %d; want %d, %d", what, made, e, c.made, c.e)
		}
	}
}

func TestPlayRefuses(t *testing.T) {
	for what, g := range wrong() {
		for _, moves := range [][]int{nil, {0}, {-1}, {99}, {-1, -1, 0}, make([]int, 201)} {
			if now, n, made, e := stones.Play(g, moves); !isNothing(now) || n != [2]int{} || made != 0 || e != api.ErrState {
				t.Errorf("Play of %s: %v, %v, %d, %d", what, now, n, made, e)
			}
		}
	}
	for _, g := range []api.Grid{blank(1, 1), of(t, "XOX", "O.O"), blank(9, 10)} {
		for _, at := range outside(g) {
			if at == -1 || at >= 0 && at < len(g.Cells) {
				continue
			}
			if now, n, made, e := stones.Play(g, []int{-1, at}); !same(now, g) || n != [2]int{} || made != 1 || e != api.ErrRange {
				t.Errorf("Play at %d of %v: %v, %v, %d, %d", at, g, now, n, made, e)
			}
		}
	}
}

// P14.3

func TestAreas(t *testing.T) {
	for _, c := range []struct {
		what                 string
		g                    api.Grid
		black, white, nobody int
	}{
		{"the chapter's example", of(t, ".X.", "XX."), 6, 0, 0},
		{"nothing", blank(10, 10), 0, 0, 100},
		{"one empty place", blank(1, 1), 0, 0, 1},
		{"one stone has all", of(t, "...", ".O.", "..."), 0, 9, 0},
		{"one stone each", of(t, "X..", "..O"), 1, 1, 4},
		{"a wall each", of(t, ".XO.", ".XO."), 4, 4, 0},
		{"a gap between walls", of(t, ".X.O.", ".X.O."), 4, 4, 2},
		{"full", of(t, "XO", "OO"), 1, 3, 0},
		{"regions of both, and of nobody", of(t, ".X...", "XX...", "...OO", "...O."), 4, 4, 12},
		{"two regions of one", of(t, ".X.", "XXX", ".X."), 9, 0, 0},
		{"a stone inside makes it nobody's", of(t, "XXXX", "X.OX", "XXXX"), 10, 1, 1},
		{"regions do not come together slanting", of(t, ".X", "X.", "OO"), 3, 2, 1},
	} {
		if a, b, n, e := stones.Areas(c.g); a != c.black || b != c.white || n != c.nobody || e != api.OK {
			t.Errorf("%s: %d, %d, %d, %d; want %d, %d, %d", c.what, a, b, n, e, c.black, c.white, c.nobody)
		}
	}
}

func TestAreasOfMany(t *testing.T) {
	d := die(146)
	var seen [3]int
	for range 1000 {
		g := d.drawn(1+d.below(6), 1+d.below(6))
		if d.below(100) == 0 {
			g = d.any()
		}
		want := plainAreas(g)
		black, white, nobody, e := stones.Areas(g)
		if black != want[1] || white != want[2] || nobody != want[0] || e != api.OK {
			t.Fatalf("Areas(%v) = %d, %d, %d, %d; want %v", g, black, white, nobody, e, want)
		}
		if black+white+nobody != len(g.Cells) {
			t.Fatalf("Areas(%v) are not all places", g)
		}
		for who, n := range want {
			if who == 0 && n > 0 {
				seen[0]++
			}
			if who > 0 && n > len(slices.Concat(plainGroups(g, who)...)) {
				seen[who]++
			}
		}
	}
	if slices.Min(seen[:]) < 100 {
		t.Errorf("too few of a kind: %v", seen)
	}
}

func TestAreasRefuses(t *testing.T) {
	for what, g := range wrong() {
		if a, b, n, e := stones.Areas(g); a != 0 || b != 0 || n != 0 || e != api.ErrState {
			t.Errorf("Areas of %s: %d, %d, %d, %d", what, a, b, n, e)
		}
	}
}

// P14.4

func TestAlive(t *testing.T) {
	for _, c := range []struct {
		what string
		g    api.Grid
		who  int
		want []int
	}{
		{"no stones", blank(5, 5), 1, nil},
		{"two groups share the eyes between them", of(t, ".X.X."), 1, []int{1, 3}},
		{"two eyes", of(t, ".X.", "XXX"), 1, []int{1, 3, 4, 5}},
		{"two eyes, of white", of(t, ".O.", "OOO"), 2, []int{1, 3, 4, 5}},
		{"not those of the other", of(t, ".O.", "OOO"), 1, nil},
		{"one eye", of(t, ".XX", "XXX"), 1, nil},
		{"none", of(t, "XX", "XX"), 1, nil},
		{"an eye of two places, both liberties", of(t, "..X.", "XXXX"), 1, []int{2, 4, 5, 6, 7}},
		{"an eye of three places in a row", of(t, "...X.", "XXXXX"), 1, []int{3, 5, 6, 7, 8, 9}},
		{"an empty place that is no liberty", of(t, "...X.", "..XXX", "XXXXX"), 1, nil},
		{"stones of the other there instead", of(t, "OO.X.", "O.XXX", "XXXXX"), 1, []int{3, 7, 8, 9, 10, 11, 12, 13, 14}},
		{"a stone of the other in an eye", of(t, "O.X.", "XXXX"), 1, []int{2, 4, 5, 6, 7}},
		{"a region that is full is no eye", of(t, "OOX.", "XXXX"), 1, nil},
		{"nor a second one", of(t, "OX.X.", "XXXXX"), 1, []int{1, 3, 5, 6, 7, 8, 9}},
		{"groups in a ring around stones of the other", of(t, ".XX.", "XOOX", ".XX."), 1, []int{1, 2, 4, 7, 9, 10}},
		{"a ring that is open", of(t, ".XX.", "XOOX", ".XXO"), 1, nil},
		{"groups in a ring around an empty place", of(t, ".X.", "X.X", ".X."), 1, []int{1, 3, 5, 7}},
		{"an eye falls with a group that borders on it", of(t, ".X.X..", "XXX.X.", "......"), 1, nil},
		{"an eye that a lost group borders on is none", of(t, ".X.XO", "XXXOO"), 1, nil},
		{"one group stays, another goes", of(t, ".X.XX", "XXXO.", "...X."), 1, nil},
		{"one group stays, another far away goes", of(t, ".X.XO.X", "XXXXO.."), 1, []int{1, 3, 7, 8, 9, 10}},
		{"a row of groups, each by the next", of(t, ".X.X.X.X."), 1, []int{1, 3, 5, 7}},
		{"a row of groups that falls from its end", of(t, "OX.X.X.X."), 1, nil},
		{"both have two eyes: black", of(t, ".X.XO.O.", "XXXXOOOO"), 1, []int{1, 3, 8, 9, 10, 11}},
		{"both have two eyes: white", of(t, ".X.XO.O.", "XXXXOOOO"), 2, []int{4, 6, 12, 13, 14, 15}},
		{"one eye, and a liberty outside", of(t, ".XX..", "XXX.."), 1, nil},
		{"an eye, and all outside are liberties", of(t, ".XX.", "XXX."), 1, []int{1, 2, 4, 5, 6}},
	} {
		if l, e := stones.Alive(c.g, c.who); !slices.Equal(l, c.want) || e != api.OK {
			t.Errorf("%s: %v, %d; want %v", c.what, l, e, c.want)
		}
	}
}

func TestAliveOfMany(t *testing.T) {
	d := die(147)
	var seen [3]int // nothing is alive, some stones are, all are
	mostRounds := 0
	look := func(g api.Grid, who int) {
		want, rounds := roundsAlive(g, who)
		l, e := stones.Alive(g, who)
		if !slices.Equal(l, want) || e != api.OK {
			t.Fatalf("Alive(%v, %d) = %v, %d; want %v", g, who, l, e, want)
		}
		groups := plainGroups(g, who)
		if len(groups) <= 7 {
			if want := plainAlive(g, who); !slices.Equal(l, want) {
				t.Fatalf("Alive(%v, %d) = %v; want %v", g, who, l, want)
			}
		}
		switch n := len(slices.Concat(groups...)); {
		case len(l) == 0:
			seen[0]++
		case len(l) < n:
			seen[1]++
		default:
			seen[2]++
		}
		mostRounds = max(mostRounds, rounds)
	}
	for range 10000 {
		look(d.drawn(1+d.below(5), 1+d.below(5)), 1+d.below(2))
	}
	for range 1000 {
		look(d.any(), 1+d.below(2))
	}
	if slices.Min(seen[:]) < 50 || mostRounds < 4 {
		t.Errorf("too few of a kind: %v, at most %d rounds", seen, mostRounds)
	}
}

// taker finds out which stones of one the other can take, if the one always passes: by all that the other can do.
type taker struct {
	who   int
	known map[string][]int
}

func (k taker) taken(g api.Grid) []int {
	key := fmt.Sprint(g)
	if l, ok := k.known[key]; ok {
		return l
	}
	var all []int
	for at, sign := range g.Cells {
		if sign != 0 {
			continue
		}
		after, _, e := stones.Put(g, 3-k.who, at)
		if e != api.OK {
			continue
		}
		for place, sign := range g.Cells {
			if sign == k.who && after.Cells[place] != k.who {
				all = append(all, place)
			}
		}
		all = append(all, k.taken(after)...)
	}
	slices.Sort(all)
	all = slices.Compact(all)
	k.known[key] = all
	return all
}

func TestAliveIsWhatNobodyCanTake(t *testing.T) {
	for _, size := range [][2]int{{1, 1}, {7, 1}, {1, 6}, {2, 2}, {2, 4}, {3, 3}, {4, 2}} {
		for who := 1; who <= 2; who++ {
			k := taker{who: who, known: map[string][]int{}}
			boards, alive := 0, 0
			everyBoard(size[0], size[1], func(g api.Grid) {
				if !everyGroupHasLiberties(g) {
					return
				}
				taken := k.taken(g)
				var want []int
				for at, sign := range g.Cells {
					if sign == who && !slices.Contains(taken, at) {
						want = append(want, at)
					}
				}
				l, e := stones.Alive(g, who)
				if !slices.Equal(l, want) || e != api.OK {
					t.Fatalf("Alive(%v, %d) = %v, %d; but %v cannot be taken", g, who, l, e, want)
				}
				boards++
				if len(l) > 0 {
					alive++
				}
			})
			if size[0]*size[1] > 5 && (boards < 100 || alive < 5) {
				t.Errorf("%v: only %d boards, %d with what is alive", size, boards, alive)
			}
		}
	}
}

func TestAliveStaysSo(t *testing.T) {
	d := die(148)
	moves := 0
	for range 2000 {
		g, who := d.drawn(1+d.below(8), 1+d.below(8)), 1+d.below(2)
		before, _ := stones.Alive(g, who)
		for range len(g.Cells) {
			after, _, e := stones.Put(g, 3-who, d.below(len(g.Cells)))
			if e != api.OK || len(before) == 0 {
				continue
			}
			moves++
			now, _ := stones.Alive(after, who)
			for _, at := range before {
				if !slices.Contains(now, at) {
					t.Fatalf("%v: %v of %d is alive, but behind a move, %v, only %v", g, before, who, after, now)
				}
			}
			g, before = after, now
		}
	}
	if moves < 300 {
		t.Errorf("only %d moves", moves)
	}
}

func TestAliveRefuses(t *testing.T) {
	for what, g := range wrong() {
		for _, who := range append(strangers(), 1, 2) {
			if l, e := stones.Alive(g, who); len(l) != 0 || e != api.ErrState {
				t.Errorf("Alive of %s, %d: %v, %d", what, who, l, e)
			}
		}
	}
	for _, who := range strangers() {
		for _, g := range []api.Grid{blank(1, 1), of(t, "O"), of(t, ".X.X."), blank(10, 10)} {
			if l, e := stones.Alive(g, who); len(l) != 0 || e != api.ErrKind {
				t.Errorf("Alive of %d: %v, %d", who, l, e)
			}
		}
	}
}

// What holds everywhere.

func TestListsAreLeftAlone(t *testing.T) {
	d := die(149)
	for range 300 {
		g, who := d.any(), 1+d.below(2)
		at := d.below(len(g.Cells))
		moves := []int{at, -1, d.below(len(g.Cells)), d.below(len(g.Cells)), -1, -1}
		before, said := slices.Clone(g.Cells), slices.Clone(moves)
		g.Cells, moves = roomy(g.Cells), roomy(moves)
		stones.Group(g, at)
		stones.Put(g, who, at)
		stones.Play(g, moves)
		stones.Areas(g)
		stones.Alive(g, who)
		untouched(t, "a call", g.Cells, before)
		untouched(t, "a call", moves, said)
	}
	before := with(blank(3, 3), 3, 3)
	bad := api.Grid{W: 3, H: 3, Cells: roomy(before.Cells)}
	stones.Group(bad, 3)
	stones.Put(bad, 1, 0)
	stones.Play(bad, []int{0})
	stones.Areas(bad)
	stones.Alive(bad, 1)
	untouched(t, "a call that refuses", bad.Cells, before.Cells)
}

// A board that is changed while it is looked at, and then put right, is seen by others that look at it meanwhile.
func TestManyLookAtOneBoard(t *testing.T) {
	g := ko(t)
	moves := []int{6, 3, 8, 5}
	ask := func() string {
		l, free, e := stones.Group(g, 5)
		after, taken, f := stones.Put(g, 1, 6)
		now, n, made, h := stones.Play(g, moves)
		black, white, nobody, i := stones.Areas(g)
		alive, j := stones.Alive(g, 1)
		return fmt.Sprint(l, free, e, after, taken, f, now, n, made, h, black, white, nobody, i, alive, j, g, moves)
	}
	want := ask()
	var told [8]string
	var all sync.WaitGroup
	for i := range told {
		all.Go(func() {
			for range 50 {
				told[i] = ask()
			}
		})
	}
	all.Wait()
	for _, text := range told {
		if text != want {
			t.Fatalf("told %s; want %s", text, want)
		}
	}
}

func TestAnswersAreNew(t *testing.T) {
	g := of(t, ".X.XO", "XX.OO", ".XO..")
	before := slices.Clone(g.Cells)
	all := func() string {
		l, free, _ := stones.Group(g, 1)
		after, taken, _ := stones.Put(g, 2, 6+1)
		still, _, _, _ := stones.Play(g, nil)
		refused, _, _, _ := stones.Play(g, []int{-1, 99})
		now, n, made, _ := stones.Play(g, []int{7, 14})
		alive, _ := stones.Alive(g, 1)
		lists := [][]int{l, free, after.Cells, still.Cells, refused.Cells, now.Cells, alive}
		told := fmt.Sprint(lists, taken, n, made)
		for i, list := range lists {
			rest := fmt.Sprint(lists[i+1:])
			scribble(list)
			if fmt.Sprint(lists[i+1:]) != rest {
				t.Error("lists of answers share memory")
			}
		}
		return told
	}
	if a, b := all(), all(); a != b {
		t.Errorf("asked again: %s, then %s", a, b)
	}
	if !slices.Equal(g.Cells, before) {
		t.Errorf("an answer shares what was handed in: %v", g.Cells)
	}
}
