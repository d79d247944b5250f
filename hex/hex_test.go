package hex_test

import (
	"fmt"
	"math"
	"slices"
	"strings"
	"sync"
	"testing"

	"gameroom/api"
	"gameroom/hex"
)

const spare = -77

// roomy gives a list with spare room, so that a call that writes behind its end is found out.
func roomy(l []int) []int {
	r := make([]int, len(l)+8)
	copy(r, l)
	for i := len(l); i < len(r); i++ {
		r[i] = spare
	}
	return r[:len(l)]
}

func untouched(t *testing.T, what string, l, before []int) {
	t.Helper()
	if !slices.Equal(l, before) {
		t.Errorf("%s changed what was handed in: %v, was %v", what, l, before)
	}
	for _, x := range l[len(l):cap(l)] {
		if x != spare {
			t.Errorf("%s wrote into the spare room of what was handed in", what)
			return
		}
	}
}

// scribble overwrites a list and its spare room.
func scribble(l []int) {
	l = l[:cap(l)]
	for i := range l {
		l[i] = spare
	}
}

// die gives numbers that look drawn, the same each time.
type die uint64

func (d *die) below(n int) int {
	*d = *d*6364136223846793005 + 1442695040888963407
	return int(uint64(*d>>33) % uint64(n))
}

// drawn board of n rows, with few signs or many; no game need lead there.
func (d *die) drawn(n int) api.Grid {
	g := blank(n)
	kinds := [][]int{{0, 1, 2}, {1, 2}, {0, 1, 2, 2, 2}, {0, 1, 1, 1, 2}, {0, 0, 0, 1, 2}, {0, 1, 1, 1, 2, 2, 2}}[d.below(6)]
	for i := range g.Cells {
		g.Cells[i] = kinds[d.below(len(kinds))]
	}
	return g
}

// full board of n rows.
func (d *die) full(n int) api.Grid {
	g := blank(n)
	for i := range g.Cells {
		g.Cells[i] = 1 + d.below(2)
	}
	return g
}

// nearlyFull board of n rows: so many places are empty, if it has them.
func (d *die) nearlyFull(n, open int) api.Grid {
	g := d.full(n)
	for open = min(open, n*n); open > 0; {
		if at := d.below(n * n); g.Cells[at] != 0 {
			g.Cells[at] = 0
			open--
		}
	}
	return g
}

func blank(n int) api.Grid { return api.Grid{W: n, H: n, Cells: make([]int, n*n)} }

// of rows, told as texts.
func of(t *testing.T, lines ...string) api.Grid {
	t.Helper()
	g := api.Grid{H: len(lines), W: len(lines[0])}
	for _, line := range lines {
		if len(line) != g.W {
			t.Fatalf("lines of unlike lengths: %q", lines)
		}
		for i := range len(line) {
			g.Cells = append(g.Cells, strings.IndexByte(".XO", line[i]))
		}
	}
	return g
}

// with another number at a place.
func with(g api.Grid, at, sign int) api.Grid {
	g.Cells = slices.Clone(g.Cells)
	g.Cells[at] = sign
	return g
}

// crossed board: rows and columns changed, and the players, too.
func crossed(g api.Grid) api.Grid {
	c := blank(g.W)
	for at, sign := range g.Cells {
		if sign != 0 {
			c.Cells[crossedPlace(at, g.W)] = 3 - sign
		}
	}
	return c
}

func crossedPlace(at, n int) int { return at%n*n + at/n }

// half: turned so that the last place comes first.
func half(g api.Grid) api.Grid {
	g.Cells = slices.Clone(g.Cells)
	slices.Reverse(g.Cells)
	return g
}

// moved places, rising.
func moved(l []int, to func(at int) int) []int {
	var m []int
	for _, at := range l {
		m = append(m, to(at))
	}
	slices.Sort(m)
	return m
}

// wrong boards, of each kind of fault.
func wrong() map[string]api.Grid {
	return map[string]api.Grid{
		"nothing":                   {},
		"no sides, and a number":    {Cells: []int{0}},
		"columns below 0":           {W: -3, H: 3, Cells: make([]int, 9)},
		"both sides below 0":        {W: -3, H: -3, Cells: make([]int, 9)},
		"eleven and eleven":         blank(11),
		"sides whose product wraps": {W: 1 << 32, H: 1 << 32},
		"sides that wrap to one":    {W: math.MaxInt, H: math.MaxInt, Cells: []int{0}},
		"the least sides":           {W: math.MinInt, H: math.MinInt},
		"no numbers":                {W: 3, H: 3},
		"a number short":            {W: 3, H: 3, Cells: make([]int, 8)},
		"a number too many":         {W: 3, H: 3, Cells: make([]int, 10)},
		"very many numbers":         {W: 10, H: 10, Cells: make([]int, 1<<16)},
		"a number below 0":          with(blank(2), 0, -1),
		"a 3":                       with(blank(3), 5, 3),
		"a 3 at the end":            with(blank(10), 99, 3),
		"the greatest number":       with(blank(1), 0, math.MaxInt),
		"the least number":          with(blank(1), 0, math.MinInt),
		"the letter of a sign":      with(blank(4), 7, 'X'),
		"more columns than rows":    {W: 3, H: 2, Cells: make([]int, 6)},
		"more rows than columns":    {W: 2, H: 3, Cells: make([]int, 6)},
		"one column":                {W: 1, H: 10, Cells: make([]int, 10)},
		"one row":                   {W: 10, H: 1, Cells: make([]int, 10)},
		"a column of one player":    {W: 1, H: 2, Cells: []int{1, 1}},
		"ten and nine":              {W: 10, H: 9, Cells: make([]int, 90)},
	}
}

// strangers: numbers that are no player.
func strangers() []int { return []int{math.MinInt, -2, -1, 0, 3, 4, 'X', 1 << 32, math.MaxInt} }

// near: are two places neighbours? Told by how far apart they are, as the chapter lists them.
func near(a, b, n int) bool {
	right, down := b%n-a%n, b/n-a/n
	switch down {
	case 0:
		return right == -1 || right == 1
	case -1:
		return right == 0 || right == 1
	case 1:
		return right == -1 || right == 0
	}
	return false
}

// plainGroups: signs put together until no more come together.
func plainGroups(g api.Grid, who int) [][]int {
	leader := make([]int, len(g.Cells))
	for i := range leader {
		leader[i] = i
	}
	for changed := true; changed; {
		changed = false
		for a := range leader {
			for b := range leader {
				if g.Cells[a] == who && g.Cells[b] == who && near(a, b, g.W) && leader[a] < leader[b] {
					leader[b] = leader[a]
					changed = true
				}
			}
		}
	}
	var all [][]int
	for first := range leader {
		var group []int
		for at := range leader {
			if g.Cells[at] == who && leader[at] == first {
				group = append(group, at)
			}
		}
		if len(group) > 0 {
			all = append(all, group)
		}
	}
	return all
}

// touches: at which of a player's sides does a place lie?
func touches(at, n, who int) (first, last bool) {
	if who == 1 {
		return at < n, at >= n*(n-1)
	}
	return at%n == 0, at%n == n-1
}

func plainJoins(g api.Grid, group []int, who int) bool {
	var first, last bool
	for _, at := range group {
		a, b := touches(at, g.W, who)
		first, last = first || a, last || b
	}
	return first && last
}

// plainJoined tells whatever it finds: of both players, if both had joined.
func plainJoined(g api.Grid) (int, []int) {
	who := 0
	var all []int
	for player := 1; player <= 2; player++ {
		for _, group := range plainGroups(g, player) {
			if plainJoins(g, group, player) {
				who |= player
				all = append(all, group...)
			}
		}
	}
	slices.Sort(all)
	return who, all
}

// plainWinner of a game that goes on until the board is full: who joins its sides keeps them joined.
func plainWinner(g api.Grid, mover int) int {
	full := true
	for at, sign := range g.Cells {
		if sign != 0 {
			continue
		}
		full = false
		if plainWinner(with(g, at, mover), 3-mover) == mover {
			return mover
		}
	}
	if full {
		who, _ := plainJoined(g)
		return who
	}
	return 3 - mover
}

func plainSolve(g api.Grid, who int) (int, []int) {
	if winner, _ := plainJoined(g); winner != 0 {
		return winner, nil
	}
	var places []int
	for at, sign := range g.Cells {
		if sign == 0 && plainWinner(with(g, at, who), 3-who) == who {
			places = append(places, at)
		}
	}
	if len(places) == 0 {
		return 3 - who, nil
	}
	return who, places
}

// plainShortest: the cheapest ways between all places, over one more place each time.
func plainShortest(g api.Grid, who int) int {
	const far = 1000
	n := len(g.Cells)
	price := func(at int) int {
		switch g.Cells[at] {
		case who:
			return 0
		case 0:
			return 1
		}
		return far
	}
	ways := make([][]int, n)
	for a := range n {
		ways[a] = slices.Repeat([]int{far}, n)
		ways[a][a] = price(a)
		for b := range n {
			if near(a, b, g.W) {
				ways[a][b] = price(a) + price(b)
			}
		}
	}
	for over := range n {
		for a := range n {
			for b := range n {
				ways[a][b] = min(ways[a][b], ways[a][over]+ways[over][b]-price(over))
			}
		}
	}
	least := far
	for a := range n {
		for b := range n {
			first, _ := touches(a, g.W, who)
			if _, last := touches(b, g.W, who); first && last {
				least = min(least, ways[a][b])
			}
		}
	}
	if least >= far {
		return -1
	}
	return least
}

// fewest signs that join a player's sides, found by putting them in all ways.
func fewest(g api.Grid, who int) int {
	if winner, _ := plainJoined(g); winner == who {
		return 0
	}
	least := -1
	var put func(from, signs int)
	put = func(from, signs int) {
		if least >= 0 && signs >= least {
			return
		}
		if winner, _ := plainJoined(g); winner == who {
			least = signs
			return
		}
		for at := from; at < len(g.Cells); at++ {
			if g.Cells[at] == 0 {
				g.Cells[at] = who
				put(at+1, signs+1)
				g.Cells[at] = 0
			}
		}
	}
	g.Cells = slices.Clone(g.Cells)
	put(0, 0)
	return least
}

// everyBoard of n rows.
func everyBoard(n int, tell func(g api.Grid)) {
	g := blank(n)
	for {
		tell(g)
		at := 0
		for at < len(g.Cells) && g.Cells[at] == 2 {
			g.Cells[at] = 0
			at++
		}
		if at == len(g.Cells) {
			return
		}
		g.Cells[at]++
	}
}

// snake: a board of ten rows on which player 1 goes to and fro all the way from above to below, and player 2 stands everywhere else.
func snake(t *testing.T) api.Grid {
	return of(t,
		"XXXXXXXXXX",
		"OOOOOOOOOX",
		"XXXXXXXXXX",
		"XOOOOOOOOO",
		"XXXXXXXXXX",
		"OOOOOOOOOX",
		"XXXXXXXXXX",
		"XOOOOOOOOO",
		"XXXXXXXXXX",
		"OOOOOOOOOX",
	)
}

// P13.1

func TestNeighbours(t *testing.T) {
	for _, n := range []int{1, 2, 3, 4, 10} {
		for a := range n * n {
			for b := range a {
				for who := 1; who <= 2; who++ {
					g := with(with(blank(n), a, who), b, who)
					want := [][]int{{b}, {a}}
					if near(a, b, n) {
						want = [][]int{{b, a}}
					}
					if l, e := hex.Groups(g, who); fmt.Sprint(l) != fmt.Sprint(want) || e != api.OK {
						t.Fatalf("%d rows, %d at %d and %d: %v, %d; want %v", n, who, b, a, l, e, want)
					}
				}
			}
		}
	}
}

func TestGroups(t *testing.T) {
	for _, c := range []struct {
		what string
		g    api.Grid
		who  int
		want [][]int
	}{
		{"none, on an empty place", of(t, "."), 1, nil},
		{"none of the other", of(t, "X"), 2, nil},
		{"one place", of(t, "O"), 2, [][]int{{0}}},
		{"above and beside", of(t, ".XX", "XXX", "XX."), 1, [][]int{{1, 2, 3, 4, 5, 6, 7}}},
		{"six around a place, joined in a ring", of(t, ".XX", "X.X", "XX."), 1, [][]int{{1, 2, 3, 5, 6, 7}}},
		{"not up to the left", of(t, "X..", ".X.", "..X"), 1, [][]int{{0}, {4}, {8}}},
		{"up to the right", of(t, "..O", ".O.", "O.."), 2, [][]int{{2, 4, 6}}},
		{"not over the border", of(t, "..X", "X..", "..X"), 1, [][]int{{2}, {3}, {8}}},
		{"not over the border, the other way", of(t, "X..", "..X", "X.."), 1, [][]int{{0}, {5}, {6}}},
		{"by their least places", of(t, "X..X", "X..X", "..X.", "X..X"), 1, [][]int{{0, 4}, {3, 7, 10}, {12}, {15}}},
		{"a group that comes together late", of(t, "X.X", "X.X", "XXX"), 1, [][]int{{0, 2, 3, 5, 6, 7, 8}}},
		{"the other stands between", of(t, "XOX", "XOX", "XOX"), 1, [][]int{{0, 3, 6}, {2, 5, 8}}},
		{"the one between", of(t, "XOX", "XOX", "XOX"), 2, [][]int{{1, 4, 7}}},
		{"full of one", of(t, "OO", "OO"), 2, [][]int{{0, 1, 2, 3}}},
	} {
		if l, e := hex.Groups(c.g, c.who); fmt.Sprint(l) != fmt.Sprint(c.want) || e != api.OK {
			t.Errorf("%s: %v, %d; want %v", c.what, l, e, c.want)
		}
	}
	if l, e := hex.Groups(snake(t), 1); len(l) != 1 || len(l[0]) != 55 || e != api.OK {
		t.Errorf("a long way: %v, %d", l, e)
	}
	if l, e := hex.Groups(snake(t), 2); len(l) != 5 || len(l[4]) != 9 || e != api.OK {
		t.Errorf("what lies between: %v, %d", l, e)
	}
}

func TestGroupsOfMany(t *testing.T) {
	d := die(131)
	most := 0
	for range 2000 {
		g, who := d.drawn(1+d.below(10)), 1+d.below(2)
		want := plainGroups(g, who)
		l, e := hex.Groups(g, who)
		if !slices.EqualFunc(l, want, slices.Equal) || e != api.OK {
			t.Fatalf("Groups(%v, %d) = %v, %d; want %v", g, who, l, e, want)
		}
		most = max(most, len(l))
	}
	if most < 10 {
		t.Errorf("at most %d groups", most)
	}
}

func TestGroupsRefuses(t *testing.T) {
	for what, g := range wrong() {
		for _, who := range append(strangers(), 1, 2) {
			if l, e := hex.Groups(g, who); len(l) != 0 || e != api.ErrState {
				t.Errorf("Groups of %s, %d: %v, %d", what, who, l, e)
			}
		}
	}
	for _, who := range strangers() {
		for _, g := range []api.Grid{blank(1), of(t, "X"), of(t, "XO", "OX"), blank(10)} {
			if l, e := hex.Groups(g, who); len(l) != 0 || e != api.ErrKind {
				t.Errorf("Groups of %d: %v, %d", who, l, e)
			}
		}
	}
}

// P13.2

func TestJoined(t *testing.T) {
	for _, c := range []struct {
		what  string
		g     api.Grid
		who   int
		where []int
	}{
		{"an empty place", of(t, "."), 0, nil},
		{"one place of 1", of(t, "X"), 1, []int{0}},
		{"one place of 2", of(t, "O"), 2, []int{0}},
		{"nobody stands anywhere", blank(10), 0, nil},
		{"1 down", of(t, ".X.", ".X.", ".X."), 1, []int{1, 4, 7}},
		{"2 down joins nothing", of(t, ".O.", ".O.", ".O."), 0, nil},
		{"2 across", of(t, "...", "OOO", "..."), 2, []int{3, 4, 5}},
		{"1 across joins nothing", of(t, "...", "XXX", "..."), 0, nil},
		{"1 down to the left", of(t, "..X", ".X.", "X.."), 1, []int{2, 4, 6}},
		{"2 down to the left", of(t, "..O", ".O.", "O.."), 2, []int{2, 4, 6}},
		{"1 down to the right is no way", of(t, "X..", ".X.", "..X"), 0, nil},
		{"2 down to the right is no way", of(t, "O..", ".O.", "..O"), 0, nil},
		{"one sign short", of(t, ".X.", ".X.", "O.O"), 0, nil},
		{"two groups, both at one side", of(t, "X.X", "...", "X.X"), 0, nil},
		{"both sides, but two groups", of(t, "XX.", "...", ".XX"), 0, nil},
		{"all groups that join, and no others", of(t, "X.XO", "X.X.", "XOXO", "XOX."), 1, []int{0, 2, 4, 6, 8, 10, 12, 14}},
		{"the places of two groups, rising", of(t, "OOO", "..X", "OOO"), 2, []int{0, 1, 2, 6, 7, 8}},
		{"all of a group, not only its way", of(t, "XXX", ".X.", "XX."), 1, []int{0, 1, 2, 4, 6, 7}},
		{"more signs than the other", of(t, "XXO", "XO.", "O.."), 2, []int{2, 4, 6}},
	} {
		if who, where, e := hex.Joined(c.g); who != c.who || !slices.Equal(where, c.where) || e != api.OK {
			t.Errorf("%s: %d, %v, %d; want %d, %v", c.what, who, where, e, c.who, c.where)
		}
	}
}

func TestJoinedOfMany(t *testing.T) {
	var seen [3]int
	look := func(g api.Grid) {
		who, where := plainJoined(g)
		a, l, e := hex.Joined(g)
		if a != who || !slices.Equal(l, where) || e != api.OK {
			t.Fatalf("Joined(%v) = %d, %v, %d; want %d, %v", g, a, l, e, who, where)
		}
		seen[who]++
	}
	for n := 1; n <= 3; n++ {
		everyBoard(n, look)
	}
	d := die(132)
	for range 1000 {
		look(d.drawn(4 + d.below(7)))
	}
	if slices.Min(seen[:]) < 1000 {
		t.Errorf("too few of a kind: %v", seen)
	}
}

func TestJustOneHasJoinedAFullBoard(t *testing.T) {
	d := die(133)
	for range 5000 {
		g := d.full(1 + d.below(10))
		who, where, e := hex.Joined(g)
		if who != 1 && who != 2 || len(where) < g.W || e != api.OK {
			t.Fatalf("Joined(%v) = %d, %v, %d", g, who, where, e)
		}
	}
}

func TestJoinedRefuses(t *testing.T) {
	for what, g := range wrong() {
		if who, l, e := hex.Joined(g); who != 0 || len(l) != 0 || e != api.ErrState {
			t.Errorf("Joined of %s: %d, %v, %d", what, who, l, e)
		}
	}
}

// P13.3

func TestSolve(t *testing.T) {
	for _, c := range []struct {
		what   string
		g      api.Grid
		who    int
		winner int
		places []int
	}{
		{"one place, 1 to move", blank(1), 1, 1, []int{0}},
		{"one place, 2 to move", blank(1), 2, 2, []int{0}},
		{"one place that is 1's", of(t, "X"), 2, 1, nil},
		{"one place that is 2's", of(t, "O"), 2, 2, nil},
		{"two rows, 1 begins: where they slant together", blank(2), 1, 1, []int{1, 2}},
		{"two rows, 2 begins", blank(2), 2, 2, []int{1, 2}},
		{"1 has a bridge", of(t, ".X", ".."), 2, 1, nil},
		{"1 has a bridge, and is to move", of(t, ".X", ".."), 1, 1, []int{0, 2, 3}},
		{"three rows", blank(3), 1, 1, []int{2, 3, 4, 5, 6}},
		{"three rows, 2 begins", blank(3), 2, 2, []int{1, 2, 4, 6, 7}},
		{"one move that holds the other up", of(t, "OX.", "O.O", "X.."), 1, 1, []int{4}},
		{"joined already, by the mover", of(t, "X.", "X."), 1, 1, nil},
		{"joined already, by the other", of(t, "X.", "X."), 2, 1, nil},
		{"full", of(t, "XO", "OX"), 1, 2, nil},
	} {
		if winner, places, e := hex.Solve(c.g, c.who); winner != c.winner || !slices.Equal(places, c.places) || e != api.OK {
			t.Errorf("%s: %d, %v, %d; want %d, %v", c.what, winner, places, e, c.winner, c.places)
		}
	}
}

func TestSolveOfMany(t *testing.T) {
	var seen [3][3]int // who moves, who wins
	look := func(g api.Grid, who int) {
		winner, places := plainSolve(g, who)
		a, l, e := hex.Solve(g, who)
		if a != winner || !slices.Equal(l, places) || e != api.OK {
			t.Fatalf("Solve(%v, %d) = %d, %v, %d; want %d, %v", g, who, a, l, e, winner, places)
		}
		if len(places) > 0 || winner != who {
			seen[who][winner]++
		}
	}
	for n := 1; n <= 2; n++ {
		for who := 1; who <= 2; who++ {
			everyBoard(n, func(g api.Grid) { look(g, who) })
		}
	}
	d := die(134)
	for range 1500 {
		look(d.nearlyFull(3, 3+d.below(4)), 1+d.below(2))
	}
	for range 300 {
		look(d.nearlyFull(4+d.below(3), 4+d.below(2)), 1+d.below(2))
	}
	for range 60 {
		look(d.nearlyFull(7+d.below(4), 3), 1+d.below(2))
	}
	for _, l := range seen[1:] {
		if slices.Min(l[1:]) < 100 {
			t.Errorf("too few of a kind: %v", seen)
		}
	}
}

// As many empty places as may be: what a move leads to is asked of the program again, which knows nothing of the first question.
func TestSolveMoveByMove(t *testing.T) {
	d := die(135)
	moves := 0
	for range 200 {
		g, who := d.nearlyFull(3+d.below(8), 9), 1+d.below(2)
		joined, _ := plainJoined(g)
		if joined != 0 {
			continue
		}
		var want []int
		for at, sign := range g.Cells {
			if sign == 0 {
				if winner, _, _ := hex.Solve(with(g, at, who), 3-who); winner == who {
					want = append(want, at)
				}
				moves++
			}
		}
		winner, places, e := hex.Solve(g, who)
		if !slices.Equal(places, want) || (winner == who) != (len(want) > 0) || winner != who && winner != 3-who || e != api.OK {
			t.Fatalf("Solve(%v, %d) = %d, %v, %d; want %v", g, who, winner, places, e, want)
		}
	}
	if moves < 500 {
		t.Errorf("only %d moves", moves)
	}
}

func TestWhoBeginsWins(t *testing.T) {
	for n := 1; n <= 3; n++ {
		for who := 1; who <= 2; who++ {
			if winner, places, e := hex.Solve(blank(n), who); winner != who || len(places) == 0 || e != api.OK {
				t.Errorf("%d rows, %d begins: %d, %v, %d", n, who, winner, places, e)
			}
		}
	}
}

func TestASignMoreIsNoHarm(t *testing.T) {
	d := die(136)
	for range 500 {
		g, mover := d.nearlyFull(3+d.below(8), 1+d.below(7)), 1+d.below(2)
		winner, _, _ := hex.Solve(g, mover)
		needed, _ := hex.Shortest(g, winner)
		for at, sign := range g.Cells {
			if sign == winner {
				continue
			}
			more := with(g, at, winner)
			if a, _, e := hex.Solve(more, mover); a != winner || e != api.OK {
				t.Fatalf("Solve(%v, %d) = %d, but with one more of its signs at %d %d, %d", g, mover, winner, at, a, e)
			}
			if n, e := hex.Shortest(more, winner); n > needed || e != api.OK {
				t.Fatalf("Shortest(%v, %d) = %d, but with one more of its signs at %d %d, %d", g, winner, needed, at, n, e)
			}
		}
	}
}

func TestSolveRefuses(t *testing.T) {
	for what, g := range wrong() {
		for _, who := range append(strangers(), 1, 2) {
			if winner, l, e := hex.Solve(g, who); winner != 0 || len(l) != 0 || e != api.ErrState {
				t.Errorf("Solve of %s, %d: %d, %v, %d", what, who, winner, l, e)
			}
		}
	}
	for _, who := range strangers() {
		for _, g := range []api.Grid{blank(1), of(t, "X"), blank(3), blank(4), blank(10)} {
			if winner, l, e := hex.Solve(g, who); winner != 0 || len(l) != 0 || e != api.ErrKind {
				t.Errorf("Solve of %d: %d, %v, %d", who, winner, l, e)
			}
		}
	}
	for what, g := range map[string]api.Grid{
		"ten open":                 of(t, "XOXO", "..O.", "....", "..X."),
		"ten open, and 1 joined":   of(t, "X...", "X...", "X.O.", "X..O"),
		"ten open, and 2 joined":   of(t, "OOOO", "....", "..XX", "...."),
		"all open, four rows":      blank(4),
		"all open, ten rows":       blank(10),
		"ten open of ten rows":     of(t, slices.Concat([]string{".........."}, slices.Repeat([]string{"XOXOXOXOXO"}, 9))...),
		"ten open, at the far end": of(t, slices.Concat(slices.Repeat([]string{"XXXXXOOOOO"}, 9), []string{".........."})...),
	} {
		for who := 1; who <= 2; who++ {
			if winner, l, e := hex.Solve(g, who); winner != 0 || len(l) != 0 || e != api.ErrSize {
				t.Errorf("Solve of %s: %d, %v, %d", what, winner, l, e)
			}
		}
	}
	nine := of(t, "XOXO", "..O.", "....", "..XO")
	if _, _, e := hex.Solve(nine, 1); e != api.OK {
		t.Errorf("Solve with nine open: %d", e)
	}
}

// P13.4

func TestShortest(t *testing.T) {
	for _, c := range []struct {
		what string
		g    api.Grid
		who  int
		want int
	}{
		{"one place", blank(1), 1, 1},
		{"one place, of 2", blank(1), 2, 1},
		{"its own place", of(t, "X"), 1, 0},
		{"the other's place", of(t, "X"), 2, -1},
		{"ten rows", blank(10), 1, 10},
		{"ten columns", blank(10), 2, 10},
		{"joined", of(t, ".X.", "X..", "X.."), 1, 0},
		{"the other has joined", of(t, ".X.", "X..", "X.."), 2, -1},
		{"one sign of three", of(t, "...", ".X.", "..."), 1, 2},
		{"one sign of three, in a corner that helps as well", of(t, "X..", "...", "..."), 1, 2},
		{"over a sign of the other, around", of(t, "...", ".O.", "..."), 1, 3},
		{"down to the right: around", of(t, "X..", ".X.", "..X"), 1, 2},
		{"down to the left: joined", of(t, "..X", ".X.", "X.."), 1, 0},
		{"a long way over own signs", of(t, "XXXX", "OOOX", "XXXX", "OOOO"), 1, -1},
		{"own signs far away are nearer than empty places", of(t, "...X", ".OXX", ".OX.", "..X."), 1, 0},
		{"a way around that is cheaper than the straight one", of(t, ".OXX", ".OOX", "..OX", "X..."), 1, 1},
		{"down, up and down again", of(t, "XOOOO", "XOOXX", ".O.OX", "XXOOX", "OOOOX"), 1, 2},
		{"right, left and right again", of(t, "OO.OX", "XXXOX", "XX.XX", "XOXXX", "XOOOO"), 2, 2},
		{"a long way to and fro", snake(t), 1, 0},
		{"a long way with one gap", with(snake(t), 59, 0), 1, 1},
		{"a long way that is closed", with(snake(t), 59, 2), 1, -1},
		{"a long way that a gap lets through", with(snake(t), 59, 0), 2, 1},
		{"cut off with empty places left", of(t, "...", "OOO", "..."), 1, -1},
		{"across with one sign short", of(t, "...", "O.O", "..."), 2, 1},
		{"across, with one sign and the other's between", of(t, "...", "OXO", "..."), 2, 2},
	} {
		if n, e := hex.Shortest(c.g, c.who); n != c.want || e != api.OK {
			t.Errorf("%s: %d, %d; want %d", c.what, n, e, c.want)
		}
	}
}

func TestShortestOfMany(t *testing.T) {
	for n := 1; n <= 3; n++ {
		everyBoard(n, func(g api.Grid) {
			for who := 1; who <= 2; who++ {
				want := plainShortest(g, who)
				if n, e := hex.Shortest(g, who); n != want || e != api.OK {
					t.Fatalf("Shortest(%v, %d) = %d, %d; want %d", g, who, n, e, want)
				}
			}
		})
	}
	d := die(137)
	var seen [12]int
	for range 600 {
		g, who := d.drawn(4+d.below(7)), 1+d.below(2)
		want := plainShortest(g, who)
		if n, e := hex.Shortest(g, who); n != want || e != api.OK {
			t.Fatalf("Shortest(%v, %d) = %d, %d; want %d", g, who, n, e, want)
		}
		seen[1+want]++
	}
	if slices.Min(seen[:6]) < 5 {
		t.Errorf("too few of a kind: %v", seen)
	}
}

func TestShortestIsReachedAndNoLess(t *testing.T) {
	d := die(138)
	for range 400 {
		g, who := d.drawn(2+d.below(3)), 1+d.below(2)
		want := fewest(g, who)
		if n, e := hex.Shortest(g, who); n != want || e != api.OK {
			t.Fatalf("Shortest(%v, %d) = %d, %d; want %d", g, who, n, e, want)
		}
	}
}

func TestShortestTellsWhoHasJoined(t *testing.T) {
	d := die(139)
	var seen [3]int
	for range 3000 {
		g := d.drawn(1 + d.below(10))
		joined, _, _ := hex.Joined(g)
		for who := 1; who <= 2; who++ {
			n, e := hex.Shortest(g, who)
			if (n == 0) != (joined == who) || (n == -1) != (joined == 3-who) || n < -1 || n > g.W*g.W || e != api.OK {
				t.Fatalf("Shortest(%v, %d) = %d, %d, but %d has joined", g, who, n, e, joined)
			}
		}
		seen[joined]++
	}
	if slices.Min(seen[:]) < 300 {
		t.Errorf("too few of a kind: %v", seen)
	}
}

func TestShortestRefuses(t *testing.T) {
	for what, g := range wrong() {
		for _, who := range append(strangers(), 1, 2) {
			if n, e := hex.Shortest(g, who); n != 0 || e != api.ErrState {
				t.Errorf("Shortest of %s, %d: %d, %d", what, who, n, e)
			}
		}
	}
	for _, who := range strangers() {
		for _, g := range []api.Grid{blank(1), of(t, "O"), of(t, "XO", "OX"), blank(10)} {
			if n, e := hex.Shortest(g, who); n != 0 || e != api.ErrKind {
				t.Errorf("Shortest of %d: %d, %d", who, n, e)
			}
		}
	}
}

// What holds everywhere.

// Both players have the same game: with rows and columns changed one has what the other had, and turned by half each keeps its own.
func TestPlayersAreAlike(t *testing.T) {
	d := die(140)
	for range 400 {
		g, who := d.nearlyFull(1+d.below(10), d.below(10)), 1+d.below(2)
		for what, c := range map[string]struct {
			g     api.Grid
			who   int
			place func(at int) int
		}{
			"crossed": {crossed(g), 3 - who, func(at int) int { return crossedPlace(at, g.W) }},
			"turned":  {half(g), who, func(at int) int { return len(g.Cells) - 1 - at }},
		} {
			winner, places, _ := hex.Solve(g, who)
			a, l, _ := hex.Solve(c.g, c.who)
			if (a == c.who) != (winner == who) || !slices.Equal(l, moved(places, c.place)) {
				t.Fatalf("Solve(%v, %d) = %d, %v, but %s %d, %v", g, who, winner, places, what, a, l)
			}
			joined, where, _ := hex.Joined(g)
			b, l, _ := hex.Joined(c.g)
			if (b == c.who) != (joined == who) || (b == 0) != (joined == 0) || !slices.Equal(l, moved(where, c.place)) {
				t.Fatalf("Joined(%v) = %d, %v, but %s %d, %v", g, joined, where, what, b, l)
			}
			n, _ := hex.Shortest(g, who)
			if m, _ := hex.Shortest(c.g, c.who); m != n {
				t.Fatalf("Shortest(%v, %d) = %d, but %s %d", g, who, n, what, m)
			}
		}
	}
}

func TestListsAreLeftAlone(t *testing.T) {
	d := die(141)
	for range 300 {
		g, who := d.nearlyFull(1+d.below(10), d.below(10)), 1+d.below(2)
		before := slices.Clone(g.Cells)
		g.Cells = roomy(g.Cells)
		hex.Groups(g, who)
		hex.Joined(g)
		hex.Solve(g, who)
		hex.Shortest(g, who)
		untouched(t, "a call", g.Cells, before)
	}
	before := with(blank(3), 3, 3)
	bad := api.Grid{W: 3, H: 3, Cells: roomy(before.Cells)}
	hex.Groups(bad, 1)
	hex.Joined(bad)
	hex.Solve(bad, 1)
	hex.Shortest(bad, 1)
	untouched(t, "a call that refuses", bad.Cells, before.Cells)
}

// A board that is changed while it is looked at, and then put right, is seen by others that look at it meanwhile.
func TestManyLookAtOneBoard(t *testing.T) {
	g := blank(3)
	ask := func() string {
		l, e := hex.Groups(g, 1)
		joined, where, f := hex.Joined(g)
		winner, places, h := hex.Solve(g, 1)
		n, i := hex.Shortest(g, 2)
		return fmt.Sprint(l, e, joined, where, f, winner, places, h, n, i, g)
	}
	want := ask()
	var told [8]string
	var all sync.WaitGroup
	for i := range told {
		all.Go(func() { told[i] = ask() + ask() })
	}
	all.Wait()
	for _, text := range told {
		if text != want+want {
			t.Fatalf("told %s; want %s twice", text, want)
		}
	}
}

func TestAnswersAreNew(t *testing.T) {
	g := of(t, "X.XO", "X.XO", "XOXO", "X.X.")
	open := blank(3)
	before, openBefore := slices.Clone(g.Cells), slices.Clone(open.Cells)
	all := func() string {
		l, _ := hex.Groups(g, 1)
		_, where, _ := hex.Joined(g)
		_, places, _ := hex.Solve(open, 1)
		told := fmt.Sprint(l, where, places)
		if len(l) < 2 || len(where) == 0 || len(places) == 0 {
			t.Errorf("too little is told: %s", told)
		}
		scribble(where)
		scribble(places)
		for i, group := range l {
			rest := fmt.Sprint(l[i+1:])
			scribble(group)
			if fmt.Sprint(l[i+1:]) != rest {
				t.Error("groups of one answer share their places")
			}
		}
		for _, group := range l[len(l):cap(l)] {
			scribble(group)
		}
		return told
	}
	if a, b := all(), all(); a != b {
		t.Errorf("asked again: %s, then %s", a, b)
	}
	if !slices.Equal(g.Cells, before) || !slices.Equal(open.Cells, openBefore) {
		t.Errorf("an answer shares what was handed in: %v, %v", g, open)
	}
}
