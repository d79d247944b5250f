package draughts_test

import (
	"fmt"
	"math"
	"slices"
	"strings"
	"sync"
	"testing"

	"gameroom/api"
	"gameroom/draughts"
)

const spare = -77

// roomy gives a list with spare room, so that a call that writes behind its end is found out.
func roomy(l []int) []int {
	r := make([]int, len(l)+8)
	copy(r, l)
	for i := len(l); i < len(r); i++ {
		r[i] = spare
	}
	return r[:len(l)]
}

func untouched(t *testing.T, what string, l, before []int) {
	t.Helper()
	if !slices.Equal(l, before) {
		t.Errorf("%s changed what was handed in: %v, was %v", what, l, before)
	}
	for _, x := range l[len(l):cap(l)] {
		if x != spare {
			t.Errorf("%s wrote into the spare room of what was handed in", what)
			return
		}
	}
}

// scribble overwrites a list and its spare room.
func scribble(l []int) {
	l = l[:cap(l)]
	for i := range l {
		l[i] = spare
	}
}

// die gives numbers that look drawn, the same each time.
type die uint64

func (d *die) below(n int) int {
	*d = *d*6364136223846793005 + 1442695040888963407
	return int(uint64(*d>>33) % uint64(n))
}

// drawn board with few pieces or many; no game need lead there.
func (d *die) drawn() api.Draughts {
	b := bare(1 + d.below(2))
	kinds := [][]int{{1, -1}, {1, 2, -1, -2}, {2, -2}, {2, -1, -1, -1, -1}, {-2, 1, 1, 1, 1}, {1, 1, -1, -1, 2, -2}}[d.below(6)]
	for range 1 + d.below(30) {
		place, piece := 1+d.below(32), kinds[d.below(len(kinds))]
		if piece == 1 && place <= 4 || piece == -1 && place >= 29 {
			continue
		}
		if x := with(b, place, piece); most(x) <= 12 {
			b = x
		}
	}
	return b
}

// played board: so many moves from the beginning on.
func (d *die) played(moves int) api.Draughts {
	b := draughts.New()
	for range moves {
		l := plainMoves(b)
		if len(l) == 0 {
			break
		}
		b = plainDo(b, l[d.below(len(l))])
	}
	return b
}

// any board, of a game or not.
func (d *die) any() api.Draughts {
	if d.below(3) == 0 {
		return d.played(d.below(60))
	}
	return d.drawn()
}

func bare(turn int) api.Draughts { return api.Draughts{Places: make([]int, 33), Turn: turn} }

// of a mover, and places and pieces by turns.
func of(turn int, pieces ...int) api.Draughts {
	b := bare(turn)
	for i := 0; i < len(pieces); i += 2 {
		b.Places[pieces[i]] = pieces[i+1]
	}
	return b
}

func clone(b api.Draughts) api.Draughts {
	b.Places = slices.Clone(b.Places)
	return b
}

// with another number at a place.
func with(b api.Draughts, place, piece int) api.Draughts {
	b = clone(b)
	b.Places[place] = piece
	return b
}

func same(a, b api.Draughts) bool {
	return a.Turn == b.Turn && slices.Equal(a.Places, b.Places)
}

func isZero(b api.Draughts) bool { return b.Turn == 0 && len(b.Places) == 0 }

// most pieces that a side has.
func most(b api.Draughts) int {
	first, second := 0, 0
	for _, piece := range b.Places {
		if piece > 0 {
			first++
		} else if piece < 0 {
			second++
		}
	}
	return max(first, second)
}

// turnedRound: places 33 less theirs, sides changed.
func turnedRound(b api.Draughts) api.Draughts {
	x := bare(3 - b.Turn)
	for place := 1; place <= 32; place++ {
		x.Places[33-place] = -b.Places[place]
	}
	return x
}

// told: ways as a text, steps and jumps alike.
func told(l [][]int) string { return fmt.Sprint(l) }

// strange numbers, at or beyond what an int of 32 bits holds, or little below 0.
func strange() []int {
	return []int{math.MinInt, -1 << 32, -2, -1, 1 << 32, 1<<32 + 1, math.MaxInt}
}

// wrong boards, of each kind of fault.
func wrong() map[string]api.Draughts {
	begin := draughts.New()
	all := map[string]api.Draughts{
		"nothing":                {},
		"no numbers":             {Turn: 1},
		"a number":               {Places: []int{0}, Turn: 1},
		"a number short":         {Places: make([]int, 32), Turn: 1},
		"a number too many":      {Places: make([]int, 34), Turn: 2},
		"very many numbers":      {Places: make([]int, 1<<16), Turn: 1},
		"a number too many, 0":   {Places: append(slices.Clone(begin.Places), 0), Turn: 1},
		"thirteen men of 1":      with(begin, 20, 1),
		"thirteen men of 2":      with(begin, 13, -1),
		"twelve men, king of 1":  with(begin, 16, 2),
		"twelve men, king of 2":  with(begin, 17, -2),
		"men at all of the rest": begin,
	}
	rest := all["men at all of the rest"]
	for place := 13; place <= 20; place++ {
		rest = with(rest, place, 1-place%2*2)
	}
	all["men at all of the rest"] = rest
	kings := [2]api.Draughts{bare(1), bare(2)}
	for i := range 13 {
		kings[0].Places[1+i], kings[1].Places[32-i] = 2, -2
	}
	all["thirteen kings of 1"], all["thirteen kings of 2"] = kings[0], kings[1]
	for _, first := range append(strange(), 1, 2) {
		all[fmt.Sprint("the first number ", first)] = with(begin, 0, first)
	}
	for place := 1; place <= 32; place++ {
		for _, piece := range []int{math.MinInt, -1<<32 - 1, -3, 3, 1 << 32, 1<<32 + 2, math.MaxInt} {
			all[fmt.Sprint(piece, " on ", place)] = with(bare(1), place, piece)
		}
	}
	for i := range 4 {
		all[fmt.Sprint("a man of 1 on ", 1+i)] = of(1, 1+i, 1)
		all[fmt.Sprint("a man of 2 on ", 29+i)] = of(2, 29+i, -1)
	}
	for _, turn := range append(strange(), 0, 3) {
		all[fmt.Sprint("turn ", turn)] = api.Draughts{Places: begin.Places, Turn: turn}
	}
	return all
}

// The plain ways: a board of eight rows and eight columns, walked cell by cell.

type cell struct{ row, column int }

func cellOf(place int) cell {
	row := (place - 1) / 4
	return cell{row, (place-1)%4*2 + 1 - row%2}
}

func (c cell) inside() bool { return c.row >= 0 && c.row < 8 && c.column >= 0 && c.column < 8 }

func (c cell) place() int { return c.row*4 + c.column/2 + 1 }

func ofMover(b api.Draughts, piece int) bool {
	return b.Turn == 1 && piece > 0 || b.Turn == 2 && piece < 0
}

// plainMoves: all jumps, or else all steps, put in order.
func plainMoves(b api.Draughts) [][]int {
	var steps, jumps [][]int
	for place := 1; place <= 32; place++ {
		if ofMover(b, b.Places[place]) {
			steps = append(steps, plainSteps(b, place)...)
			jumps = append(jumps, plainJumps(b, b.Places[place], []int{place})...)
		}
	}
	l := steps
	if len(jumps) > 0 {
		l = jumps
	}
	slices.SortFunc(l, slices.Compare)
	return l
}

// plainDirections in which a piece may go, in no order.
func plainDirections(piece int) []cell {
	up, down := []cell{{-1, 1}, {-1, -1}}, []cell{{1, 1}, {1, -1}}
	switch piece {
	case 1:
		return up
	case -1:
		return down
	}
	return append(up, down...)
}

func plainSteps(b api.Draughts, place int) [][]int {
	var l [][]int
	from := cellOf(place)
	for _, d := range plainDirections(b.Places[place]) {
		to := cell{from.row + d.row, from.column + d.column}
		if to.inside() && b.Places[to.place()] == 0 {
			l = append(l, []int{place, to.place()})
		}
	}
	return l
}

// plainJumps: all ways that begin so and cannot go on.
func plainJumps(b api.Draughts, piece int, way []int) [][]int {
	var l [][]int
	at := cellOf(way[len(way)-1])
	for _, d := range plainDirections(piece) {
		over, to := cell{at.row + d.row, at.column + d.column}, cell{at.row + 2*d.row, at.column + 2*d.column}
		if !to.inside() || b.Places[to.place()] != 0 && to.place() != way[0] {
			continue
		}
		if other := b.Places[over.place()]; other == 0 || ofMover(b, other) || slices.Contains(plainOver(way), over.place()) {
			continue
		}
		l = append(l, plainJumps(b, piece, append(slices.Clone(way), to.place()))...)
	}
	if len(l) == 0 && len(way) > 1 {
		return [][]int{way}
	}
	return l
}

// plainOver: what a way jumps over: what lies between two places that are two rows apart.
func plainOver(way []int) []int {
	var l []int
	for i := 1; i < len(way); i++ {
		from, to := cellOf(way[i-1]), cellOf(way[i])
		if from.row-to.row == 2 || to.row-from.row == 2 {
			l = append(l, cell{(from.row + to.row) / 2, (from.column + to.column) / 2}.place())
		}
	}
	return l
}

func plainDo(b api.Draughts, way []int) api.Draughts {
	x := clone(b)
	first, last := way[0], way[len(way)-1]
	piece := x.Places[first]
	x.Places[first] = 0
	for _, over := range plainOver(way) {
		x.Places[over] = 0
	}
	if piece == 1 && last <= 4 || piece == -1 && last >= 29 {
		piece *= 2
	}
	x.Places[last] = piece
	x.Turn = 3 - b.Turn
	return x
}

func plainCount(b api.Draughts, plies int) int {
	if plies == 0 {
		return 1
	}
	n := 0
	for _, way := range plainMoves(b) {
		n += plainCount(plainDo(b, way), plies-1)
	}
	return n
}

// P12.1

func TestNew(t *testing.T) {
	want := []int{0,
		-1, -1, -1, -1, -1, -1, -1, -1, -1, -1, -1, -1,
		0, 0, 0, 0, 0, 0, 0, 0,
		1, 1, 1, 1, 1, 1, 1, 1, 1, 1, 1, 1}
	if b := draughts.New(); b.Turn != 1 || !slices.Equal(b.Places, want) {
		t.Errorf("New() = %v", b)
	}
}

func TestMay(t *testing.T) {
	begin := draughts.New()
	kings := bare(2)
	for place := range 12 {
		kings.Places[1+place], kings.Places[32-place] = 2, -2
	}
	fine := map[string]api.Draughts{
		"the beginning":                   begin,
		"the other to move":               {Places: begin.Places, Turn: 2},
		"nothing stands there":            bare(1),
		"nothing stands there, 2 to move": bare(2),
		"twelve kings of both":            kings,
		"eleven men and a king":           with(begin, 21, 2),
		"a man of each on its first row":  of(1, 32, 1, 1, -1),
		"men ahead of the last row":       of(1, 5, 1, 28, -1),
		"one side alone":                  of(2, 13, 1),
	}
	for i := range 4 {
		fine[fmt.Sprint("kings on the rows of number ", i)] = of(1, 1+i, 2, 29+i, -2)
		fine[fmt.Sprint("men on their first rows, ", i)] = of(2, 1+i, -1, 29+i, 1)
		fine[fmt.Sprint("the other's kings there, ", i)] = of(2, 1+i, -2, 29+i, 2)
	}
	for place := 1; place <= 32; place++ {
		fine[fmt.Sprint("a king of 1 on ", place)] = of(1, place, 2)
		fine[fmt.Sprint("a king of 2 on ", place)] = of(1, place, -2)
	}
	for what, b := range fine {
		if !draughts.May(b) {
			t.Errorf("%s may not be: %v", what, b)
		}
	}
	for what, b := range wrong() {
		if draughts.May(b) {
			t.Errorf("%s may be: %v", what, b)
		}
	}
}

func TestBoardsOfGamesMayBe(t *testing.T) {
	d := die(121)
	for range 200 {
		b := draughts.New()
		for range 100 {
			l, e := draughts.Moves(b)
			if e != api.OK || !draughts.May(b) {
				t.Fatalf("%v may not be: %d", b, e)
			}
			if len(l) == 0 {
				break
			}
			b, _ = draughts.Do(b, l[d.below(len(l))])
		}
	}
}

// P12.2

func TestSteps(t *testing.T) {
	for _, c := range []struct {
		what string
		b    api.Draughts
		want string
	}{
		{"the chapter's example", draughts.New(), "[[21 17] [22 17] [22 18] [23 18] [23 19] [24 19] [24 20]]"},
		{"the other at the beginning", api.Draughts{Places: draughts.New().Places, Turn: 2}, "[[9 13] [9 14] [10 14] [10 15] [11 15] [11 16] [12 16]]"},
		{"nothing stands there", bare(1), "[]"},
		{"the other alone", of(1, 14, -2), "[]"},
		{"a man of 1 in the middle", of(1, 18, 1), "[[18 14] [18 15]]"},
		{"a man of 1 in the middle of an even row", of(1, 15, 1), "[[15 10] [15 11]]"},
		{"a man of 2 in the middle", of(2, 18, -1), "[[18 22] [18 23]]"},
		{"a man of 2 in the middle of an even row", of(2, 15, -1), "[[15 18] [15 19]]"},
		{"a king of 1", of(1, 18, 2), "[[18 14] [18 15] [18 22] [18 23]]"},
		{"a king of 2", of(2, 15, -2), "[[15 10] [15 11] [15 18] [15 19]]"},
		{"the left border", of(1, 21, 2), "[[21 17] [21 25]]"},
		{"the right border", of(1, 20, 2), "[[20 16] [20 24]]"},
		{"the corner below", of(1, 29, 2), "[[29 25]]"},
		{"the corner above", of(2, 4, -2), "[[4 8]]"},
		{"the first place", of(2, 1, -1), "[[1 5] [1 6]]"},
		{"the last place", of(1, 32, 1), "[[32 27] [32 28]]"},
		{"an own one in the way", of(1, 18, 1, 14, 2), "[[14 9] [14 10] [14 17] [18 15]]"},
		{"the other in the way, and one behind it", of(1, 18, 1, 14, -1, 9, -1), "[[18 15]]"},
		{"the other in the way, an own one behind it", of(1, 18, 1, 14, -1, 9, 1), "[[9 5] [9 6] [18 15]]"},
		{"the other at the left border", of(1, 17, 1, 13, -1), "[[17 14]]"},
		{"the other at the right border", of(1, 24, 1, 20, -1), "[[24 19]]"},
		{"the other on the last row", of(1, 7, 1, 2, -2, 3, -2), "[]"},
		{"shut in", of(1, 29, 1, 25, -1, 22, -1), "[]"},
		{"men do not jump back", of(1, 14, 1, 17, -1, 18, -1), "[[14 9] [14 10]]"},
		{"the other's men do not, either", of(2, 18, -1, 14, 1, 15, 1), "[[18 22] [18 23]]"},
		{"not round the border", of(1, 13, 2, 12, -2, 17, 2), "[[13 9] [17 14] [17 21] [17 22]]"},
		{"men come to the last row", of(1, 5, 1, 8, 1), "[[5 1] [8 3] [8 4]]"},
		{"the other's men come to it", of(2, 28, -1, 25, -1), "[[25 29] [25 30] [28 32]]"},
	} {
		if l, e := draughts.Moves(c.b); told(l) != c.want || e != api.OK {
			t.Errorf("%s: %v, %d; want %s", c.what, l, e, c.want)
		}
	}
}

func TestJumps(t *testing.T) {
	for _, c := range []struct {
		what string
		b    api.Draughts
		want string
	}{
		{"a man of 1", of(1, 18, 1, 14, -1), "[[18 9]]"},
		{"a man of 2", of(2, 14, -1, 18, 1), "[[14 23]]"},
		{"over a king", of(1, 18, 1, 15, -2), "[[18 11]]"},
		{"a jump must be made, whoever can step", of(1, 18, 1, 14, -1, 32, 1, 21, 2), "[[18 9]]"},
		{"two that can", of(1, 18, 1, 14, -1, 20, 1, 16, -1), "[[18 9] [20 11]]"},
		{"one that has two", of(1, 18, 1, 14, -1, 15, -2), "[[18 9] [18 11]]"},
		{"not over an own one", of(1, 18, 1, 15, 1), "[[15 10] [15 11] [18 14]]"},
		{"not over two", of(1, 25, 1, 22, -1, 18, -2, 21, 1), "[[21 17]]"},
		{"it goes on", of(1, 25, 1, 22, -1, 15, -1, 8, -1), "[[25 18 11 4]]"},
		{"it goes on to the other side", of(1, 26, 1, 22, -1, 14, -1, 13, -1), "[[26 17 10]]"},
		{"it goes on by turns", of(1, 31, 1, 27, -1, 19, -1, 20, -1, 11, -1, 12, -1), "[[31 24 15 8]]"},
		{"a way that ends sooner is one, too", of(1, 31, 1, 26, -1, 27, -1, 19, -1), "[[31 22] [31 24 15]]"},
		{"it parts", of(1, 32, 1, 27, -1, 28, -1, 19, -1, 20, -1, 18, -2), "[[32 23 14] [32 23 16]]"},
		{"two ways to one end", of(1, 31, 1, 26, -1, 27, -1, 18, -1, 19, -1), "[[31 22 15] [31 24 15]]"},
		{"a man does not turn back", of(1, 25, 1, 22, -1, 23, -1), "[[25 18]]"},
		{"a king turns back", of(1, 25, 2, 22, -1, 23, -1), "[[25 18 27]]"},
		{"a king jumps once over each", of(1, 1, 2, 6, -1), "[[1 10]]"},
		{"a king jumps in all directions", of(2, 18, -2, 14, 1, 15, 1, 22, 2, 23, 2), "[[18 9] [18 11] [18 25] [18 27]]"},
		{"round four, back to where it was", of(1, 10, 2, 14, -1, 15, -1, 22, -1, 23, -1), "[[10 17 26 19 10] [10 19 26 17 10]]"},
		{"a man comes to the last row, and stops", of(1, 11, 1, 7, -1, 6, -1), "[[11 2]]"},
		{"a king goes on there", of(1, 11, 2, 7, -1, 6, -1), "[[11 2 9]]"},
		{"the other's man stops", of(2, 22, -1, 26, 1, 27, 1), "[[22 31]]"},
		{"the other's king goes on", of(2, 22, -2, 26, 1, 27, 1), "[[22 31 24]]"},
		{"not over the border", of(1, 10, 1, 5, -1, 9, -1, 6, 1), "[[6 1] [6 2] [10 7]]"},
	} {
		if l, e := draughts.Moves(c.b); told(l) != c.want || e != api.OK {
			t.Errorf("%s: %v, %d; want %s", c.what, l, e, c.want)
		}
	}
}

func TestMovesRefuses(t *testing.T) {
	for what, b := range wrong() {
		if l, e := draughts.Moves(b); len(l) != 0 || e != api.ErrState {
			t.Errorf("Moves of %s: %v, %d", what, l, e)
		}
	}
}

func TestMovesOfMany(t *testing.T) {
	d := die(122)
	var none, steps, jumps, long, rings, crowned int
	for range 30000 {
		b := d.any()
		want := plainMoves(b)
		l, e := draughts.Moves(b)
		if told(l) != told(want) || e != api.OK {
			t.Fatalf("Moves(%v) = %v, %d; want %v", b, l, e, want)
		}
		if len(l) == 0 {
			none++
		}
		for _, way := range l {
			x, e := draughts.Do(b, way)
			if done := plainDo(b, way); !same(x, done) || e != api.OK {
				t.Fatalf("Do(%v, %v) = %v, %d; want %v", b, way, x, e, done)
			}
			switch over := plainOver(way); {
			case len(over) == 0:
				steps++
			case len(over) < 4:
				jumps++
			default:
				long++
			}
			first, last := way[0], way[len(way)-1]
			if first == last {
				rings++
			}
			if b.Places[first] != x.Places[last] {
				crowned++
			}
		}
	}
	if none < 300 || steps < 10000 || jumps < 10000 || long < 100 || rings < 20 || crowned < 1000 {
		t.Errorf("%d boards without, %d steps, %d jumps, %d long ones, %d rings, %d crowned", none, steps, jumps, long, rings, crowned)
	}
}

// A king among as many of the other as can be jumped over.
func TestLongJumps(t *testing.T) {
	longest := 0
	for place := 1; place <= 32; place++ {
		at := cellOf(place)
		for some := range 1 << 9 {
			b := of(1, place, 2)
			for i := range 9 {
				// All that can be jumped over from here lie one row and one column beside where the king can come to.
				over := cell{1 + at.row%2 + i/3*2, 1 + at.column%2 + i%3*2}
				if some>>i&1 == 1 {
					b.Places[over.place()] = -1 - i%2
				}
			}
			for _, b := range []api.Draughts{b, turnedRound(b)} {
				want := plainMoves(b)
				l, e := draughts.Moves(b)
				if told(l) != told(want) || e != api.OK {
					t.Fatalf("Moves(%v) = %v, %d; want %v", b, l, e, want)
				}
				for _, way := range l {
					longest = max(longest, len(way))
					x, e := draughts.Do(b, way)
					if done := plainDo(b, way); !same(x, done) || e != api.OK {
						t.Fatalf("Do(%v, %v) = %v, %d; want %v", b, way, x, e, done)
					}
				}
			}
		}
	}
	if longest < 9 {
		t.Errorf("the longest way has %d places", longest)
	}
}

func TestTurnedRoundBoardsHaveTheSameWays(t *testing.T) {
	d := die(123)
	for range 3000 {
		b := d.any()
		x := turnedRound(b)
		l, _ := draughts.Moves(b)
		want := make([][]int, len(l))
		for i, way := range l {
			for _, place := range way {
				want[i] = append(want[i], 33-place)
			}
			done, _ := draughts.Do(b, way)
			if y, e := draughts.Do(x, want[i]); !same(y, turnedRound(done)) || e != api.OK {
				t.Fatalf("Do(%v, %v) = %v; turned round: %v, %d", b, way, done, y, e)
			}
		}
		slices.SortFunc(want, slices.Compare)
		if m, e := draughts.Moves(x); told(m) != told(want) || e != api.OK {
			t.Fatalf("%v has ways %v; turned round, %v: %v, %d", b, l, x, m, e)
		}
		n, _ := draughts.Count(b, 3)
		if m, e := draughts.Count(x, 3); m != n || e != api.OK {
			t.Fatalf("%v has %d rows; turned round, %v: %d, %d", b, n, x, m, e)
		}
	}
}

// P12.3

func TestDo(t *testing.T) {
	begin := draughts.New()
	for _, c := range []struct {
		what string
		b    api.Draughts
		way  []int
		want api.Draughts
	}{
		{"the first move", begin, []int{23, 18}, api.Draughts{Places: with(with(begin, 23, 0), 18, 1).Places, Turn: 2}},
		{"the other's", of(2, 9, -1, 30, 1), []int{9, 14}, of(1, 14, -1, 30, 1)},
		{"a king goes back", of(1, 9, 2), []int{9, 14}, of(2, 14, 2)},
		{"the other's king goes back", of(2, 14, -2), []int{14, 9}, of(1, 9, -2)},
		{"a jump", of(1, 18, 1, 14, -1, 1, -1), []int{18, 9}, of(2, 9, 1, 1, -1)},
		{"over a king", of(2, 14, -1, 18, 2, 32, 2), []int{14, 23}, of(1, 23, -1, 32, 2)},
		{"over three", of(1, 25, 1, 22, -1, 15, -2, 8, -1), []int{25, 18, 11, 4}, of(2, 4, 2)},
		{"round four", of(1, 10, 2, 14, -1, 15, -1, 22, -1, 23, -2, 32, -2), []int{10, 19, 26, 17, 10}, of(2, 10, 2, 32, -2)},
		{"a man becomes a king", of(1, 5, 1), []int{5, 1}, of(2, 1, 2)},
		{"the other's man becomes a king", of(2, 28, -1), []int{28, 32}, of(1, 32, -2)},
		{"a man becomes a king by a jump", of(1, 11, 1, 7, -1, 6, -1), []int{11, 2}, of(2, 2, 2, 6, -1)},
		{"the other's man, by a jump", of(2, 22, -1, 26, 1, 27, 1), []int{22, 31}, of(1, 31, -2, 27, 1)},
		{"not on the second row", of(1, 9, 1), []int{9, 5}, of(2, 5, 1)},
		{"not on the last but one", of(2, 24, -1), []int{24, 28}, of(1, 28, -1)},
		{"a king stays a king", of(1, 5, 2), []int{5, 1}, of(2, 1, 2)},
		{"a king comes to its first row", of(1, 25, 2), []int{25, 29}, of(2, 29, 2)},
		{"the other's, too", of(2, 5, -2), []int{5, 1}, of(1, 1, -2)},
		{"the last of the other is taken", of(1, 18, 2, 23, -1), []int{18, 27}, of(2, 27, 2)},
	} {
		if b, e := draughts.Do(c.b, c.way); !same(b, c.want) || e != api.OK {
			t.Errorf("%s: %v, %d; want %v", c.what, b, e, c.want)
		}
	}
}

func TestDoRefuses(t *testing.T) {
	for what, b := range wrong() {
		for _, way := range [][]int{nil, {1}, {21, 17}, {0, 33}, {9, 13}} {
			if x, e := draughts.Do(b, way); !isZero(x) || e != api.ErrState {
				t.Errorf("Do of %s, %v: %v, %d", what, way, x, e)
			}
		}
	}
	row := of(1, 25, 1, 22, -1, 15, -1, 8, -1, 32, 1)
	for _, c := range []struct {
		what string
		b    api.Draughts
		way  []int
	}{
		{"nothing", draughts.New(), nil},
		{"an empty way", draughts.New(), []int{}},
		{"one place", draughts.New(), []int{21}},
		{"it stays", draughts.New(), []int{21, 21}},
		{"more behind a step", draughts.New(), []int{21, 17, 14}},
		{"the same again behind a step", draughts.New(), []int{21, 17, 17}},
		{"the other's man", draughts.New(), []int{9, 13}},
		{"an empty place", draughts.New(), []int{17, 13}},
		{"a man goes back", of(1, 18, 1), []int{18, 22}},
		{"a place of another colour", of(1, 18, 1), []int{18, 16}},
		{"round the border", of(1, 21, 2), []int{21, 16}},
		{"a step, though a jump can be made", row, []int{32, 28}},
		{"a step of the one that can jump", row, []int{25, 21}},
		{"it stops ahead of the end", row, []int{25, 18}},
		{"it stops one jump ahead of the end", row, []int{25, 18, 11}},
		{"its first and last place", row, []int{25, 4}},
		{"it goes on behind the end", row, []int{25, 18, 11, 4, 4}},
		{"it is told from its end", row, []int{4, 11, 18, 25}},
		{"what is jumped over is told", row, []int{25, 22, 18, 15, 11, 8, 4}},
		{"very long", row, make([]int, 1<<16)},
		{"a number 0", draughts.New(), []int{0, 21}},
		{"a number 33", draughts.New(), []int{33, 28}},
		{"numbers that wrap", draughts.New(), []int{1<<32 + 21, 1<<32 + 17}},
		{"numbers that wrap at 256", draughts.New(), []int{256 + 21, 256 + 17}},
		{"the least number", draughts.New(), []int{math.MinInt, 17}},
		{"the greatest number", draughts.New(), []int{21, math.MaxInt}},
		{"nobody stands there", bare(1), []int{21, 17}},
	} {
		if x, e := draughts.Do(c.b, c.way); !isZero(x) || e != api.ErrRule {
			t.Errorf("%s: %v, %d; want ErrRule", c.what, x, e)
		}
	}
}

// Whatever two or three places are told: it is done just if it is one of the ways.
func TestDoTakesWaysAlone(t *testing.T) {
	d := die(124)
	done := 0
	for range 60 {
		b := d.any()
		l := plainMoves(b)
		try := func(way []int) {
			x, e := draughts.Do(b, way)
			if !slices.ContainsFunc(l, func(w []int) bool { return slices.Equal(w, way) }) {
				if !isZero(x) || e != api.ErrRule {
					t.Fatalf("Do(%v, %v) = %v, %d; want ErrRule", b, way, x, e)
				}
				return
			}
			done++
			if e != api.OK || x.Turn != 3-b.Turn {
				t.Fatalf("Do(%v, %v) = %v, %d", b, way, x, e)
			}
		}
		for from := range 35 {
			for to := range 35 {
				try([]int{from - 1, to - 1})
			}
		}
		for range 300 {
			try([]int{1 + d.below(32), 1 + d.below(32), 1 + d.below(32)})
		}
	}
	if done < 100 {
		t.Errorf("%d ways were done", done)
	}
}

func TestNoPieceComesFromNowhere(t *testing.T) {
	pieces := func(b api.Draughts, who int) int {
		n := 0
		for _, piece := range b.Places {
			if who == 1 && piece > 0 || who == 2 && piece < 0 {
				n++
			}
		}
		return n
	}
	d := die(125)
	for range 3000 {
		b := d.any()
		l, _ := draughts.Moves(b)
		for _, way := range l {
			x, _ := draughts.Do(b, way)
			who, other := b.Turn, 3-b.Turn
			if pieces(x, who) != pieces(b, who) || pieces(x, other) != pieces(b, other)-len(plainOver(way)) {
				t.Fatalf("Do(%v, %v) = %v", b, way, x)
			}
		}
	}
}

func TestCount(t *testing.T) {
	for plies, want := range []int{1, 7, 49, 302, 1469, 7361, 36768} {
		for _, b := range []api.Draughts{draughts.New(), turnedRound(draughts.New())} {
			if n, e := draughts.Count(b, plies); n != want || e != api.OK {
				t.Errorf("Count of %d moves from the beginning, %d to move: %d, %d; want %d", plies, b.Turn, n, e, want)
			}
		}
	}
	shut := of(1, 29, 1, 25, -1, 22, -1)
	for _, c := range []struct {
		what  string
		b     api.Draughts
		plies int
		want  int
	}{
		{"no moves, where nobody can", bare(1), 0, 1},
		{"nobody can", bare(1), 1, 0},
		{"nobody can, however many", bare(2), 6, 0},
		{"no moves, where the mover cannot", shut, 0, 1},
		{"the mover cannot, the other could", shut, 1, 0},
		{"the mover cannot, and passes not", shut, 2, 0},
		{"the other has nothing: one move", of(1, 18, 2), 1, 4},
		{"the other has nothing: none goes on", of(1, 18, 2), 2, 0},
		{"the last of the other is taken", of(1, 18, 1, 14, -1), 1, 1},
		{"the last of the other is taken: none goes on", of(1, 18, 1, 14, -1), 2, 0},
		{"three moves", of(1, 11, 1, 12, 1, 4, -1), 1, 3},
		{"one of them shuts the other in", of(1, 11, 1, 12, 1, 4, -1), 2, 2},
		{"both ways round are two moves", of(1, 10, 2, 14, -1, 15, -1, 22, -1, 23, -1), 1, 2},
		{"both ways round lead on", of(1, 10, 2, 14, -1, 15, -1, 22, -1, 23, -1, 32, -2), 2, 4},
	} {
		if n, e := draughts.Count(c.b, c.plies); n != c.want || e != api.OK {
			t.Errorf("%s: %d, %d; want %d", c.what, n, e, c.want)
		}
	}
}

func TestCountOfMany(t *testing.T) {
	d := die(126)
	some := 0
	for range 1500 {
		b, plies := d.any(), d.below(4)
		want := plainCount(b, plies)
		if n, e := draughts.Count(b, plies); n != want || e != api.OK {
			t.Fatalf("Count(%v, %d) = %d, %d; want %d", b, plies, n, e, want)
		}
		if want > 100 {
			some++
		}
	}
	if some < 100 {
		t.Errorf("%d with many rows", some)
	}
}

// What a piece was that left a place, or was taken there, does not hang on to the place: another one that comes to it moves as before.
func TestCountIsTheSumOfWhatEachMoveLeadsTo(t *testing.T) {
	d := die(129)
	for range 1000 {
		b := d.any()
		plies := 4 + d.below(2)
		want := 0
		for _, way := range plainMoves(b) {
			n, _ := draughts.Count(plainDo(b, way), plies-1)
			want += n
		}
		if n, e := draughts.Count(b, plies); n != want || e != api.OK {
			t.Fatalf("Count(%v, %d) = %d, %d; want %d", b, plies, n, e, want)
		}
	}
}

// Boards with many kings that are far from each other have about the most rows.
func TestCountOfManyKings(t *testing.T) {
	b := of(1, 1, 2, 2, 2, 3, 2, 4, 2, 9, 2, 10, 2, 11, 2, 12, 2, 17, -2, 23, -2, 24, -2, 25, -2, 26, -2, 32, -2)
	n, e := draughts.Count(b, api.MaxPlies)
	want := 0
	l, _ := draughts.Moves(b)
	for _, way := range l {
		x, _ := draughts.Do(b, way)
		m, _ := draughts.Count(x, api.MaxPlies-1)
		want += m
	}
	if n != want || n < 10000000 || e != api.OK {
		t.Errorf("%d, %d; want %d", n, e, want)
	}
}

func TestCountRefuses(t *testing.T) {
	for what, b := range wrong() {
		for _, plies := range []int{-1, 0, 1, 7} {
			if n, e := draughts.Count(b, plies); n != 0 || e != api.ErrState {
				t.Errorf("Count of %s, %d: %d, %d", what, plies, n, e)
			}
		}
	}
	for _, plies := range append(strange(), 7, 8) {
		for _, b := range []api.Draughts{draughts.New(), bare(1)} {
			if n, e := draughts.Count(b, plies); n != 0 || e != api.ErrRange {
				t.Errorf("Count of %d moves: %d, %d", plies, n, e)
			}
		}
	}
}

// P12.4

func TestText(t *testing.T) {
	for _, c := range []struct {
		way  []int
		jump bool
		want string
	}{
		{[]int{21, 17}, false, "21-17"},
		{[]int{18, 9}, true, "18x9"},
		{[]int{1, 10, 1}, true, "1x10x1"},
		{[]int{25, 18, 11, 4}, true, "25x18x11x4"},
		{[]int{1, 32}, false, "1-32"},
		{[]int{32, 1}, true, "32x1"},
		{[]int{5, 9, 14}, false, "5-9-14"},
		{[]int{7, 7}, false, "7-7"},
		{[]int{10, 20, 30}, true, "10x20x30"},
	} {
		if text, e := draughts.Text(c.way, c.jump); text != c.want || e != api.OK {
			t.Errorf("Text(%v, %v) = %q, %d; want %q", c.way, c.jump, text, e, c.want)
		}
		if way, jump, e := draughts.Read(c.want); !slices.Equal(way, c.way) || jump != c.jump || e != api.OK {
			t.Errorf("Read(%q) = %v, %v, %d; want %v, %v", c.want, way, jump, e, c.way, c.jump)
		}
	}
}

func TestTextRefuses(t *testing.T) {
	refuse := func(way []int, want api.Errno) {
		t.Helper()
		for _, jump := range []bool{false, true} {
			if text, e := draughts.Text(way, jump); text != "" || e != want {
				t.Errorf("Text(%v, %v) = %q, %d; want %d", way, jump, text, e, want)
			}
		}
	}
	refuse(nil, api.ErrForm)
	refuse([]int{}, api.ErrForm)
	for number := range 35 {
		refuse([]int{number}, api.ErrForm)
	}
	for _, number := range append(strange(), 0, 33, 34, 256+5) {
		refuse([]int{number}, api.ErrForm)
		refuse([]int{number, 5}, api.ErrRange)
		refuse([]int{5, number}, api.ErrRange)
		refuse([]int{1, 10, number}, api.ErrRange)
		refuse([]int{1, number, 10}, api.ErrRange)
		refuse([]int{number, number}, api.ErrRange)
	}
}

func TestReadRefuses(t *testing.T) {
	for _, c := range []struct {
		want  api.Errno
		texts []string
	}{
		{api.ErrForm, []string{
			"", "1", "32", "33", "-", "x", "--", "xx", "-x", "a", "1-", "1x", "-5", "x5", "1-5-", "1x5x", "-1-5", "x1x5", "1--5", "1xx5", "1-5--9",
			"1-5x9", "1x5-9", "1-x5", "1x-5", "-1x5", "1x5-", "x1-5",
			"01-5", "1-05", "00-5", "1-00", "1x010", "1x10x01", "033-1", "1-0005",
			"40-01", "01-40", "40-1x5", "0-", "-0", "40-", "40-a", "a-40", "40x40x", "99999999999999999999", "99999999999999999999-05",
			" 1-5", "1-5 ", "1 -5", "1- 5", "1 5", "1-5\n", "1-5\x00", "1\t-5", "+1-5", "1-+5", "1.0-5", "1e1-5", "0x1-5", "1_0-5", "1-5,",
			"1X5", "1×5", "1–5", "1:5", "1/5", "1;5", "1-5:", "1-5/", "١-٥", "1-٥", "１-５", "1-\xff", "\xff", "1\xad5", "1-5\xc3", "one-five", "1-5é",
		}},
		{api.ErrRange, []string{
			"0-5", "5-0", "0-0", "0x9", "33-1", "1-33", "40-1", "1x10x33", "1-5-100", "33x33", "1-99999", "256-5", "257x5", "1-264",
			"9223372036854775807-1", "9223372036854775808-1", "18446744073709551617-5", "5x18446744073709551621", "1-4294967301",
			"1-" + strings.Repeat("9", 5000), strings.Repeat("1", 5000) + "x5", "1" + strings.Repeat("0", 64) + "-5",
		}},
	} {
		for _, text := range c.texts {
			if way, jump, e := draughts.Read(text); len(way) != 0 || jump || e != c.want {
				t.Errorf("Read(%q) = %v, %v, %d; want %d", text, way, jump, e, c.want)
			}
		}
	}
}

// Each number from 0 to 999, with and without a 0 ahead.
func TestReadOfAllNumbers(t *testing.T) {
	for number := range 1000 {
		fine := number >= 1 && number <= 32
		way, jump, e := draughts.Read(fmt.Sprintf("7-%d", number))
		if fine && (!slices.Equal(way, []int{7, number}) || jump || e != api.OK) || !fine && (len(way) != 0 || e != api.ErrRange) {
			t.Errorf("7-%d: %v, %v, %d", number, way, jump, e)
		}
		if way, jump, e := draughts.Read(fmt.Sprintf("0%dx7", number)); len(way) != 0 || jump || e != api.ErrForm {
			t.Errorf("0%dx7: %v, %v, %d", number, way, jump, e)
		}
	}
}

func TestReadOfAllTextsOfFew(t *testing.T) {
	// Short texts of the letters that matter: what is read is just what Text tells.
	letters := "0139-x"
	want := map[string]int{}
	for from := 1; from <= 32; from++ {
		for to := 1; to <= 32; to++ {
			for _, jump := range []bool{false, true} {
				text, _ := draughts.Text([]int{from, to}, jump)
				want[text]++
				for third := 1; third <= 9; third++ {
					text, _ := draughts.Text([]int{from, to, third}, jump)
					want[text]++
				}
			}
		}
	}
	read := 0
	var try func(text string)
	try = func(text string) {
		way, jump, e := draughts.Read(text)
		if (e == api.OK) != (want[text] == 1) {
			t.Errorf("Read(%q) = %v, %v, %d", text, way, jump, e)
		}
		if e == api.OK {
			read++
			if back, f := draughts.Text(way, jump); back != text || f != api.OK {
				t.Errorf("Read(%q) = %v, %v; its text is %q, %d", text, way, jump, back, f)
			}
		}
		if len(text) < 5 {
			for i := range len(letters) {
				try(text + letters[i:i+1])
			}
		}
	}
	try("")
	if read < 100 {
		t.Errorf("%d were read", read)
	}
}

func TestTextAndReadOfMany(t *testing.T) {
	d := die(127)
	for range 3000 {
		way, jump := make([]int, 2+d.below(12)), d.below(2) == 0
		sign, words := "-", []string{}
		if jump {
			sign = "x"
		}
		for i := range way {
			way[i] = 1 + d.below(32)
			words = append(words, fmt.Sprint(way[i]))
		}
		text, e := draughts.Text(way, jump)
		if text != strings.Join(words, sign) || e != api.OK {
			t.Fatalf("Text(%v, %v) = %q, %d", way, jump, text, e)
		}
		if l, j, e := draughts.Read(text); !slices.Equal(l, way) || j != jump || e != api.OK {
			t.Fatalf("Read(%q) = %v, %v, %d", text, l, j, e)
		}
		// A letter is put in, taken out or changed: it is read just if it is a text of a way.
		at := d.below(len(text))
		changed := text[:at] + []string{"", "0", "7", "-", "x", "é"}[d.below(6)] + text[at+d.below(2):]
		if l, j, e := draughts.Read(changed); e == api.OK {
			if back, f := draughts.Text(l, j); back != changed || f != api.OK {
				t.Fatalf("Read(%q) = %v, %v; its text is %q, %d", changed, l, j, back, f)
			}
		} else if len(l) != 0 || j || e != api.ErrForm && e != api.ErrRange {
			t.Fatalf("Read(%q) = %v, %v, %d", changed, l, j, e)
		}
	}
}

func TestLongTexts(t *testing.T) {
	way := make([]int, 200000)
	for i := range way {
		way[i] = 1 + i%32
	}
	text, e := draughts.Text(way, true)
	if l, jump, f := draughts.Read(text); !slices.Equal(l, way) || !jump || e != api.OK || f != api.OK {
		t.Errorf("a long way: %d, %v, %d", e, jump, f)
	}
	if l, jump, e := draughts.Read(text + "-"); len(l) != 0 || jump || e != api.ErrForm {
		t.Errorf("a long text: %d places, %v, %d", len(l), jump, e)
	}
}

// What holds everywhere.

func TestListsAreLeftAlone(t *testing.T) {
	d := die(128)
	ask := func(b api.Draughts, way []int) {
		draughts.May(b)
		draughts.Moves(b)
		draughts.Do(b, way)
		draughts.Count(b, 2)
		draughts.Text(way, true)
	}
	for range 300 {
		b := d.any()
		before := slices.Clone(b.Places)
		b.Places = roomy(b.Places)
		for _, way := range append(plainMoves(b), nil, []int{21, 17}, []int{0, 40}) {
			room := roomy(way)
			ask(b, room)
			untouched(t, "a call", room, way)
		}
		untouched(t, "a call", b.Places, before)
	}
	before := with(draughts.New(), 13, 3).Places
	bad := api.Draughts{Places: roomy(before), Turn: 1}
	ask(bad, roomy([]int{21, 17}))
	untouched(t, "a call that refuses", bad.Places, before)
}

// A board that is changed while it is looked at, and then put right, is seen by others that look at it meanwhile.
func TestManyLookAtOneBoard(t *testing.T) {
	b := of(1, 10, 2, 14, -1, 15, -1, 22, -1, 23, -1, 32, -2, 5, 1)
	way := []int{10, 17, 26, 19, 10}
	ask := func() string {
		may := draughts.May(b)
		l, e := draughts.Moves(b)
		x, f := draughts.Do(b, way)
		n, g := draughts.Count(b, 5)
		text, h := draughts.Text(way, true)
		return fmt.Sprint(may, l, e, x, f, n, g, text, h, b, way)
	}
	want := ask()
	var told [8]string
	var all sync.WaitGroup
	for i := range told {
		all.Go(func() { told[i] = ask() + ask() })
	}
	all.Wait()
	for _, text := range told {
		if text != want+want {
			t.Fatalf("told %s; want %s twice", text, want)
		}
	}
}

func TestAnswersAreNew(t *testing.T) {
	b := draughts.New()
	way := []int{22, 18}
	all := func() string {
		begin := draughts.New()
		l, _ := draughts.Moves(b)
		x, _ := draughts.Do(b, way)
		r, _, _ := draughts.Read("1x10x17")
		told := fmt.Sprint(begin, l, x, r)
		// No way shares memory with another: the next ones are still whole.
		for i := range l {
			scribble(l[i])
			if again, _ := draughts.Moves(b); fmt.Sprint(l[i+1:]) != fmt.Sprint(again[i+1:]) {
				t.Errorf("ways share memory: %v", l)
			}
		}
		scribble(begin.Places)
		scribble(x.Places)
		scribble(r)
		return told
	}
	if a, b := all(), all(); a != b {
		t.Errorf("asked again: %s, then %s", a, b)
	}
	if !same(b, draughts.New()) || !slices.Equal(way, []int{22, 18}) {
		t.Errorf("an answer shares what was handed in: %v, %v", b, way)
	}
}
