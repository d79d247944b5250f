package endings_test

import (
	"fmt"
	"math"
	"slices"
	"sync"
	"testing"

	"gameroom/api"
	"gameroom/endings"
)

// strange numbers: the ends of what there is, and some that look right in fewer bits.
func strange() []int {
	return []int{math.MinInt, math.MinInt + 1, -1 << 32, -1 << 31, 1 << 31, 1 << 32, 1<<32 + 3, 1<<32 + 4, math.MaxInt - 1, math.MaxInt}
}

const (
	white = 0
	black = 1
)

// every board with every piece.
func every() []plain {
	var l []plain
	for n := 3; n <= api.MaxEnd; n++ {
		for _, piece := range kinds() {
			l = append(l, plainOf(n, piece))
		}
	}
	return l
}

// some of a board's states, about as many as are asked for; all of them, if there are fewer.
func (p plain) some(many int) []api.End {
	var l []api.End
	for i := 0; i < len(p.all); i += 1 + len(p.all)/many {
		l = append(l, p.all[i])
	}
	return l
}

// oneOfEach depth that a state of the board has, and one that has none.
func (p plain) oneOfEach() []api.End {
	var l []api.End
	longest, _ := p.longest()
	for depth := -1; depth <= longest; depth++ {
		l = append(l, p.all[slices.IndexFunc(p.all, func(s api.End) bool { return p.depth[s] == depth })])
	}
	return l
}

// P19.1

func TestDepth(t *testing.T) {
	for _, c := range []struct {
		what  string
		n     int
		turn  int
		words string
		want  int
	}{
		{"the example", 3, white, "Kc1 Qb3 ka1", 1},
		{"mated by the queen beside the king", 3, black, "Kc1 Qb2 ka1", 0},
		{"mated by the queen, who takes the way out slanting", 3, black, "Kc2 Qb1 ka1", 0},
		{"mated by the rook from afar", 3, black, "Ka3 Rc1 ka1", 0},
		{"mated on a wider board", 4, black, "Kb3 Rd1 ka1", 0},
		{"mated on the widest", 5, black, "Kb3 Re1 ka1", 0},
		{"mated in the middle of a side", 5, black, "Kc3 Re1 kc1", 0},
		{"mated, as behind it there is no way either", 5, black, "Kb3 Re1 kb1", 0},
		{"one move ahead of mate", 5, white, "Kb3 Re2 ka1", 1},
		{"three moves ahead of mate", 3, white, "Kc2 Rb1 ka2", 3},
		{"two moves ahead of mate, with one way", 5, black, "Kb3 Rc5 kb1", 2},
		{"check, and four moves ahead of mate", 5, black, "Kc3 Ra5 ka1", 4},
		{"the king is in the rook's way", 5, black, "Kb5 Rb3 kb1", 14},
		{"the queen is taken", 3, black, "Kc3 Qb1 ka1", -1},
		{"the rook is taken", 5, black, "Kd5 Rb2 ka1", -1},
		{"the rook is taken, though there is another way", 5, black, "Kc3 Ra2 ka1", -1},
		{"the rook would be taken, but is covered", 3, black, "Kc2 Rb1 ka1", 4},
		{"stuck", 3, black, "Kc3 Qc2 ka1", -1},
		{"a rook leaves a way where a queen does not", 3, black, "Kc3 Rc2 ka1", 4},
		{"stuck on the widest board", 5, black, "Ke5 Qc2 ka1", -1},
		{"stuck by a rook that is covered", 5, black, "Kc2 Rb2 ka1", -1},
		{"mated where a rook would leave it stuck", 5, black, "Kc2 Qb2 ka1", 0},
	} {
		piece, s := of(c.n, c.turn, c.words)
		for _, image := range images(c.n, s) {
			if depth, e := endings.Depth(c.n, piece, image); depth != c.want || e != api.OK {
				t.Errorf("%s, %v: %d, %d; want %d", c.what, image, depth, e, c.want)
			}
		}
	}
}

func TestDepthOfMany(t *testing.T) {
	for _, p := range every() {
		for _, s := range append(p.some([]int{3: 1000, 4: 400, 5: 100}[p.n]), p.oneOfEach()...) {
			if depth, e := endings.Depth(p.n, p.piece, s); depth != p.depth[s] || e != api.OK {
				t.Fatalf("Depth(%d, %d, %v) = %d, %d; want %d", p.n, p.piece, s, depth, e, p.depth[s])
			}
		}
	}
}

// Turned and mirrored states have the same depth.
func TestDepthOfImages(t *testing.T) {
	for _, p := range every() {
		for _, s := range p.some([]int{3: 60, 4: 20, 5: 6}[p.n]) {
			want, _ := endings.Depth(p.n, p.piece, s)
			for _, image := range images(p.n, s) {
				if depth, e := endings.Depth(p.n, p.piece, image); depth != want || e != api.OK {
					t.Fatalf("Depth(%d, %d, %v) = %d, %d; of its image %v %d", p.n, p.piece, image, depth, e, s, want)
				}
			}
		}
	}
}

// A depth of 0 is a mate's alone, any other is one more than that of a state to come: white's least, black's greatest.
func TestDepthIsOneMore(t *testing.T) {
	for _, p := range every() {
		for _, s := range p.some([]int{3: 60, 4: 20, 5: 6}[p.n]) {
			var next []int
			for _, to := range p.next[s] {
				depth, e := endings.Depth(p.n, p.piece, to)
				if e != api.OK {
					t.Fatalf("Depth(%d, %d, %v): %d", p.n, p.piece, to, e)
				}
				next = append(next, depth)
			}
			if depth, _ := endings.Depth(p.n, p.piece, s); depth != p.oneMore(s, next) {
				t.Fatalf("Depth(%d, %d, %v) = %d; those to come have %v", p.n, p.piece, s, depth, next)
			}
		}
	}
}

// oneMore: the depth of a state, by those of the states to come.
func (p plain) oneMore(s api.End, next []int) int {
	if p.mated(s) {
		return 0
	}
	if s.Turn == white {
		next = slices.DeleteFunc(next, func(depth int) bool { return depth < 0 })
	}
	switch {
	case len(next) == 0 || p.takes(s) || slices.Min(next) < 0:
		return -1
	case s.Turn == white:
		return 1 + slices.Min(next)
	}
	return 1 + slices.Max(next)
}

func TestDepthRefusesStates(t *testing.T) {
	for _, c := range []struct {
		what  string
		n     int
		turn  int
		words string
		e     api.Errno
	}{
		{"the kings on one place", 3, black, "Ka1 Qc3 ka1", api.ErrState},
		{"the white king on the piece", 3, black, "Kc3 Qc3 ka1", api.ErrState},
		{"the black king on the piece", 3, black, "Kc3 Qa1 ka1", api.ErrState},
		{"the kings side by side", 3, black, "Kb1 Qc3 ka1", api.ErrState},
		{"the kings one above the other", 3, black, "Ka2 Qc3 ka1", api.ErrState},
		{"the kings slanting", 3, black, "Kb2 Qc3 ka1", api.ErrState},
		{"the kings at two edges of the board, numbers side by side", 3, black, "Kc1 Qc3 ka2", api.OK},
		{"white is to move, and the queen attacks straight", 3, white, "Kc1 Qa3 ka1", api.ErrState},
		{"white is to move, and the queen attacks slanting", 3, white, "Kc1 Qc3 ka1", api.ErrState},
		{"a rook does not attack slanting", 3, white, "Kc1 Rc3 ka1", api.OK},
		{"black is to move, and the queen attacks", 3, black, "Kc1 Qc3 ka1", api.OK},
		{"the king is in the way straight", 5, white, "Ka3 Qa5 ka1", api.OK},
		{"the king is in the way slanting", 5, white, "Kc3 Qe5 ka1", api.OK},
		{"the king is behind the queen", 5, white, "Kd4 Qc3 ka1", api.ErrState},
		{"the king is behind the other", 5, white, "Ka1 Qe5 kc3", api.ErrState},
	} {
		piece, s := of(c.n, c.turn, c.words)
		for _, image := range images(c.n, s) {
			if depth, e := endings.Depth(c.n, piece, image); e != c.e || e != api.OK && depth != 0 {
				t.Errorf("%s, %v: %d, %d; want %d", c.what, image, depth, e, c.e)
			}
		}
	}
}

// All small numbers on the smallest board: the state may be or may not.
func TestDepthOfAllNumbers(t *testing.T) {
	p := plainOf(3, api.Rook)
	for i := range 11 * 11 * 11 * 4 {
		s := api.End{King: i/4%11 - 1, Piece: i/44%11 - 1, Other: i/484 - 1, Turn: i%4 - 1}
		want, wantE := 0, api.ErrState
		if p.may(s) {
			want, wantE = p.depth[s], api.OK
		}
		if depth, e := endings.Depth(3, api.Rook, s); depth != want || e != wantE {
			t.Fatalf("Depth(%v) = %d, %d; want %d, %d", s, depth, e, want, wantE)
		}
	}
}

func TestDepthRefusesStrangeStates(t *testing.T) {
	for n := 3; n <= api.MaxEnd; n++ {
		for _, x := range append(strange(), -1, n*n) {
			for _, s := range []api.End{
				{King: x, Piece: 1, Other: 0, Turn: black},
				{King: 2, Piece: x, Other: 0, Turn: black},
				{King: 2, Piece: 1, Other: x, Turn: black},
				{King: x, Piece: x, Other: x, Turn: x},
			} {
				if depth, e := endings.Depth(n, api.Queen, s); depth != 0 || e != api.ErrState {
					t.Errorf("Depth(%d, %v) = %d, %d", n, s, depth, e)
				}
			}
		}
		for _, turn := range append(strange(), -1, 2, 3) {
			if depth, e := endings.Depth(n, api.Queen, api.End{King: 2, Piece: n + 2, Other: 0, Turn: turn}); depth != 0 || e != api.ErrState {
				t.Errorf("Depth(%d), turn %d: %d, %d", n, turn, depth, e)
			}
		}
	}
}

// Sizes come ahead of kinds, kinds ahead of states.
func TestRefuses(t *testing.T) {
	check := func(n, piece int, want api.Errno) {
		t.Helper()
		for _, s := range []api.End{{King: 2, Piece: 7, Other: 0}, {}, {King: -1, Piece: math.MaxInt, Other: math.MinInt, Turn: 7}} {
			if depth, e := endings.Depth(n, piece, s); depth != 0 || e != want {
				t.Errorf("Depth(%d, %d, %v) = %d, %d; want %d", n, piece, s, depth, e, want)
			}
		}
		if longest, l, e := endings.Longest(n, piece); longest != 0 || len(l) != 0 || e != want {
			t.Errorf("Longest(%d, %d) = %d, %v, %d; want %d", n, piece, longest, l, e, want)
		}
		if c, e := endings.Count(n, piece); c != [3]int{} || e != want {
			t.Errorf("Count(%d, %d) = %v, %d; want %d", n, piece, c, e, want)
		}
	}
	others := append(strange(), -6, -5, -4, -1, 0, 1, 2, 3, 6, 7)
	for _, n := range append(strange(), -5, -4, -3, -1, 0, 1, 2, 6, 7, 8) {
		for _, piece := range append(others, kinds()...) {
			check(n, piece, api.ErrSize)
		}
	}
	for n := 3; n <= api.MaxEnd; n++ {
		for _, piece := range others {
			check(n, piece, api.ErrKind)
		}
	}
}

// P19.2

func TestLongest(t *testing.T) {
	for _, c := range []struct {
		n, piece, longest, states int
		first, last               api.End
	}{
		{3, api.Rook, 6, 28, api.End{King: 0, Piece: 1, Other: 5, Turn: 1}, api.End{King: 8, Piece: 7, Other: 3, Turn: 1}},
		{3, api.Queen, 2, 56, api.End{King: 0, Piece: 1, Other: 5, Turn: 1}, api.End{King: 8, Piece: 7, Other: 3, Turn: 1}},
		{4, api.Rook, 14, 48, api.End{King: 0, Piece: 7, Other: 9, Turn: 1}, api.End{King: 15, Piece: 8, Other: 6, Turn: 1}},
		{4, api.Queen, 8, 296, api.End{King: 0, Piece: 1, Other: 2, Turn: 1}, api.End{King: 15, Piece: 14, Other: 13, Turn: 1}},
		{5, api.Rook, 20, 56, api.End{King: 0, Piece: 4, Other: 2, Turn: 1}, api.End{King: 24, Piece: 20, Other: 22, Turn: 1}},
		{5, api.Queen, 12, 56, api.End{King: 0, Piece: 1, Other: 7, Turn: 1}, api.End{King: 24, Piece: 23, Other: 17, Turn: 1}},
	} {
		longest, l, e := endings.Longest(c.n, c.piece)
		if longest != c.longest || len(l) != c.states || e != api.OK {
			t.Errorf("Longest(%d, %d) = %d, %d states, %d; want %d, %d", c.n, c.piece, longest, len(l), e, c.longest, c.states)
		} else if l[0] != c.first || l[len(l)-1] != c.last {
			t.Errorf("Longest(%d, %d): first %v, last %v; want %v, %v", c.n, c.piece, l[0], l[len(l)-1], c.first, c.last)
		}
	}
}

func TestLongestOfAll(t *testing.T) {
	for _, p := range every() {
		want, states := p.longest()
		longest, l, e := endings.Longest(p.n, p.piece)
		if longest != want || !slices.Equal(l, states) || e != api.OK {
			t.Errorf("Longest(%d, %d) = %d, %v, %d; want %d, %v", p.n, p.piece, longest, l, e, want, states)
		}
		for i, s := range l {
			if i%16 != 0 {
				continue
			}
			if depth, e := endings.Depth(p.n, p.piece, s); depth != longest || e != api.OK {
				t.Errorf("board %d, piece %d: %v has depth %d, %d, not %d", p.n, p.piece, s, depth, e, longest)
			}
		}
	}
}

func TestCount(t *testing.T) {
	for _, c := range []struct {
		n, piece int
		want     [3]int
	}{
		{3, api.Rook, [3]int{108, 140, 84}},
		{3, api.Queen, [3]int{48, 120, 104}},
		{4, api.Rook, [3]int{1312, 1572, 612}},
		{4, api.Queen, [3]int{812, 1440, 744}},
		{5, api.Rook, [3]int{7040, 8284, 2204}},
		{5, api.Queen, [3]int{4976, 8008, 2480}},
	} {
		if n, e := endings.Count(c.n, c.piece); n != c.want || e != api.OK {
			t.Errorf("Count(%d, %d) = %v, %d; want %v", c.n, c.piece, n, e, c.want)
		}
	}
}

func TestCountOfAll(t *testing.T) {
	for _, p := range every() {
		want := p.count()
		if n, e := endings.Count(p.n, p.piece); n != want || e != api.OK {
			t.Errorf("Count(%d, %d) = %v, %d; want %v", p.n, p.piece, n, e, want)
		}
		if sum := want[0] + want[1] + want[2]; sum != len(p.all) {
			t.Errorf("board %d, piece %d: %d states counted of %d", p.n, p.piece, sum, len(p.all))
		}
	}
}

// What holds everywhere

func TestAnswersAreNew(t *testing.T) {
	_, want, _ := endings.Longest(4, api.Rook)
	_, l, _ := endings.Longest(4, api.Rook)
	for i := range l[:cap(l)] {
		l[:cap(l)][i] = api.End{King: -9, Piece: -9, Other: -9, Turn: -9}
	}
	longest, again, e := endings.Longest(4, api.Rook)
	if longest != 14 || !slices.Equal(again, want) || e != api.OK || slices.Contains(again, l[0]) {
		t.Errorf("behind changes to an answer: %d, %v, %d", longest, again, e)
	}
}

func TestManyAtOnce(t *testing.T) {
	ask := func(i int) string {
		n, piece := 3+i%2, 4+i/2%2
		s := api.End{King: n - 1, Piece: n*n - 2, Other: 0, Turn: i / 4 % 2}
		depth, e := endings.Depth(n, piece, s)
		longest, l, f := endings.Longest(n, piece)
		count, g := endings.Count(n, piece)
		return fmt.Sprint(depth, e, longest, l, f, count, g)
	}
	const many = 48
	var want, got [many]string
	for i := range want {
		want[i] = ask(i)
	}
	var all sync.WaitGroup
	for i := range got {
		all.Go(func() { got[i] = ask(i) })
	}
	all.Wait()
	if got != want {
		t.Error("many at once answer otherwise than one behind the other")
	}
}
