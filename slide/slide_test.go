package slide_test

import (
	"fmt"
	"math"
	"slices"
	"sync"
	"testing"

	"gameroom/api"
	"gameroom/slide"
)

// strange numbers: the ends of what there is, and some that look right in fewer bits.
func strange() []int {
	return []int{math.MinInt, math.MinInt + 1, -1 << 32, -1 << 31, 1<<32 + 1, 1<<32 + 2, 1<<62 + 1, math.MaxInt - 1, math.MaxInt}
}

// small sizes, of which all boards are looked through.
func small() [][2]int { return [][2]int{{2, 2}, {3, 2}, {2, 3}} }

const spare = -77

// roomy gives a list with spare room, so that a call that writes behind its end is found out.
func roomy(l []int) []int {
	r := make([]int, len(l)+8)
	copy(r, l)
	for i := len(l); i < len(r); i++ {
		r[i] = spare
	}
	return r[:len(l)]
}

func untouched(t *testing.T, what string, l, before []int) {
	t.Helper()
	if !slices.Equal(l, before) {
		t.Errorf("%s changed what was handed in: %v, was %v", what, l, before)
	}
	for _, x := range l[len(l):cap(l)] {
		if x != spare {
			t.Errorf("%s wrote into the spare room of what was handed in", what)
			return
		}
	}
}

// scribble overwrites a list and its spare room.
func scribble(l []int) {
	l = l[:cap(l)]
	for i := range l {
		l[i] = spare
	}
}

// unfit boards: none of them may be.
func unfit() map[string]api.Grid {
	l := map[string]api.Grid{
		"nothing":                           {},
		"one place":                         board(1, 0),
		"one row":                           board(3, 1, 2, 0),
		"one column":                        board(1, 1, 2, 0),
		"too wide":                          atHome(6, 2),
		"too high":                          atHome(2, 6),
		"no stones told":                    {W: 3, H: 2},
		"one place too few":                 {W: 3, H: 2, Cells: []int{1, 2, 3, 4, 0}},
		"one place too many":                {W: 3, H: 2, Cells: []int{1, 2, 3, 4, 5, 6, 0}},
		"places of another size":            {W: 3, H: 3, Cells: atHome(3, 2).Cells},
		"no gap":                            board(3, 1, 2, 3, 4, 5, 6),
		"no gap, and a stone twice":         board(3, 1, 2, 3, 4, 5, 5),
		"two gaps":                          board(3, 1, 2, 3, 4, 0, 0),
		"a stone twice":                     board(3, 1, 2, 3, 4, 4, 0),
		"a stone of a greater board":        board(3, 1, 2, 3, 4, 6, 0),
		"a stone below 0":                   board(3, 1, 2, 3, 4, -5, 0),
		"less than nothing":                 {W: -2, H: -2, Cells: []int{1, 2, 3, 0}},
		"less than nothing, and no stones":  {W: -2, H: 2},
		"sizes whose product is just right": {W: 1 << 62, H: 4},
		"and with a product of 6":           {W: -(1<<63 - 1) - 1, H: 2},
	}
	for i, x := range strange() {
		l[fmt.Sprint("width ", i)] = api.Grid{W: x, H: 2, Cells: []int{1, 2, 3, 0}}
		l[fmt.Sprint("height ", i)] = api.Grid{W: 2, H: x, Cells: []int{1, 2, 3, 0}}
		l[fmt.Sprint("both ", i)] = api.Grid{W: x, H: x, Cells: []int{1, 2, 3, 0}}
		l[fmt.Sprint("stone ", i)] = board(2, 1, 2, x, 0)
	}
	return l
}

// P20.1

func TestMay(t *testing.T) {
	for w := range 8 {
		for h := range 8 {
			want := w >= 2 && w <= 5 && h >= 2 && h <= 5
			g := api.Grid{W: w, H: h, Cells: make([]int, w*h)}
			for i := range g.Cells {
				g.Cells[i] = len(g.Cells) - 1 - i
			}
			if may := slide.May(g); may != want {
				t.Errorf("%d by %d: %v", w, h, may)
			}
		}
	}
	for what, g := range unfit() {
		if slide.May(g) {
			t.Errorf("%s may be: %v", what, g)
		}
	}
	for _, size := range small() {
		for _, g := range orders(size[0], size[1]) {
			if !slide.May(g) {
				t.Fatalf("%v may not be", g)
			}
		}
	}
}

// All lists of small numbers: just those may be that have each number once.
func TestMayOfAllNumbers(t *testing.T) {
	boards := 0
	for i := range 6 * 6 * 6 * 6 {
		g := board(2, i%6-1, i/6%6-1, i/36%6-1, i/216-1)
		sorted := slices.Sorted(slices.Values(g.Cells))
		want := slices.Equal(sorted, []int{0, 1, 2, 3})
		if may := slide.May(g); may != want {
			t.Fatalf("%v: %v", g, may)
		}
		if want {
			boards++
		}
	}
	if boards != 24 {
		t.Errorf("%d boards", boards)
	}
}

// One stone changed to another number.
func TestMayOfLargeBoards(t *testing.T) {
	d := die(5)
	for range 400 {
		g := d.drawn(d.size())
		if !slide.May(g) {
			t.Fatalf("%v may not be", g)
		}
		place, number := d.below(len(g.Cells)), d.below(len(g.Cells)+2)-1
		want := g.Cells[place] == number
		g.Cells[place] = number
		if may := slide.May(g); may != want {
			t.Fatalf("%v: %v", g, may)
		}
	}
}

func TestDo(t *testing.T) {
	start := board(3,
		1, 2, 3,
		4, 0, 5)
	for _, c := range []struct {
		what  string
		g     api.Grid
		moves []int
		cells []int
		done  int
		e     api.Errno
	}{
		{"no move", start, nil, start.Cells, 0, api.OK},
		{"left", start, []int{left}, []int{1, 2, 3, 4, 5, 0}, 1, api.OK},
		{"right", start, []int{right}, []int{1, 2, 3, 0, 4, 5}, 1, api.OK},
		{"down", start, []int{down}, []int{1, 0, 3, 4, 2, 5}, 1, api.OK},
		{"up, where no stone is below", start, []int{up}, start.Cells, 0, api.ErrRule},
		{"up", board(2, 1, 0, 2, 3), []int{up}, []int{1, 3, 2, 0}, 1, api.OK},
		{"there and back", start, []int{left, right}, start.Cells, 2, api.OK},
		{"round", start, []int{left, down, right, right, up, left}, []int{4, 1, 2, 5, 0, 3}, 6, api.OK},
		{"the third cannot be made", start, []int{left, down, down, left}, []int{1, 2, 0, 4, 5, 3}, 2, api.ErrRule},
		{"nothing behind one that cannot be made", start, []int{up, left}, start.Cells, 0, api.ErrRule},
		{"not over the right border", board(2, 1, 0, 2, 3), []int{left}, []int{1, 0, 2, 3}, 0, api.ErrRule},
		{"not over the left border", board(2, 1, 2, 0, 3), []int{right}, []int{1, 2, 0, 3}, 0, api.ErrRule},
		{"not over the upper border", board(2, 1, 0, 2, 3), []int{down}, []int{1, 0, 2, 3}, 0, api.ErrRule},
		{"no such direction", start, []int{4}, start.Cells, 0, api.ErrRule},
		{"no direction below 0", start, []int{left, -1}, []int{1, 2, 3, 4, 5, 0}, 1, api.ErrRule},
	} {
		g, done, e := slide.Do(c.g, c.moves)
		if g.W != c.g.W || g.H != c.g.H || !slices.Equal(g.Cells, c.cells) || done != c.done || e != c.e {
			t.Errorf("%s: %v, %d, %d; want %v, %d, %d", c.what, g, done, e, c.cells, c.done, c.e)
		}
	}
}

func TestDoOfMany(t *testing.T) {
	d := die(2)
	all, stopped := 0, 0
	for range 2000 {
		g := d.drawn(d.size())
		moves := d.directions(d.below(7))
		want, made, wantE := g, 0, api.OK
		for _, direction := range moves {
			next, ok := moved(want, direction)
			if !ok {
				wantE = api.ErrRule
				break
			}
			want, made = next, made+1
		}
		if e := wantE; e == api.OK && len(moves) > 1 {
			all++
		} else if e == api.ErrRule && made > 0 {
			stopped++
		}
		x, done, e := slide.Do(g, moves)
		if text(x) != text(want) || done != made || e != wantE {
			t.Fatalf("Do(%v, %v) = %v, %d, %d; want %v, %d, %d", g, moves, x, done, e, want, made, wantE)
		}
	}
	if all < 200 || stopped < 200 {
		t.Errorf("%d with all moves made, %d with some", all, stopped)
	}
}

// The same moves back from the last to the first bring the board back.
func TestDoBack(t *testing.T) {
	d := die(3)
	for range 300 {
		g := d.drawn(d.size())
		far, made := g, []int{}
		for _, direction := range d.directions(60) {
			if next, n, e := slide.Do(far, []int{direction}); e == api.OK && n == 1 {
				far, made = next, append(made, direction)
			}
		}
		if at, n, e := slide.Do(g, made); text(at) != text(far) || n != len(made) || e != api.OK {
			t.Fatalf("Do(%v, %v) = %v, %d, %d; one by one %v", g, made, at, n, e, far)
		}
		slices.Reverse(made)
		for i := range made {
			made[i] = [4]int{up: down, right: left, down: up, left: right}[made[i]]
		}
		if at, n, e := slide.Do(far, made); text(at) != text(g) || n != len(made) || e != api.OK {
			t.Fatalf("Do(%v, %v) = %v, %d, %d; want %v", far, made, at, n, e, g)
		}
	}
}

func TestDoOfStrangeDirections(t *testing.T) {
	g := board(3, 1, 2, 3, 4, 0, 5)
	for _, x := range append(strange(), -4, -3, -2, -1, 4, 5, 6, 7, 8) {
		if after, done, e := slide.Do(g, []int{left, x, right}); text(after) != text(atHome(3, 2)) || done != 1 || e != api.ErrRule {
			t.Errorf("direction %d: %v, %d, %d", x, after, done, e)
		}
	}
}

func TestDoOfManyMoves(t *testing.T) {
	l := slices.Repeat([]int{right, left}, 500000)
	if g, done, e := slide.Do(atHome(5, 5), l); text(g) != text(atHome(5, 5)) || done != len(l) || e != api.OK {
		t.Errorf("%v, %d, %d", g, done, e)
	}
}

// Of a board that may not be, nothing is told but that.
func TestRefusesBoards(t *testing.T) {
	for what, g := range unfit() {
		for _, moves := range [][]int{nil, {left}, {9}} {
			if after, done, e := slide.Do(g, moves); after.W != 0 || after.H != 0 || len(after.Cells) != 0 || done != 0 || e != api.ErrState {
				t.Errorf("Do, %s: %v, %d, %d", what, after, done, e)
			}
		}
		if can, e := slide.Can(g); can || e != api.ErrState {
			t.Errorf("Can, %s: %v, %d", what, can, e)
		}
		if least, e := slide.Least(g); least != 0 || e != api.ErrState {
			t.Errorf("Least, %s: %d, %d", what, least, e)
		}
		if l, e := slide.Home(g); len(l) != 0 || e != api.ErrState {
			t.Errorf("Home, %s: %v, %d", what, l, e)
		}
	}
}

// P20.2

func TestCan(t *testing.T) {
	fifteen := atHome(4, 4)
	swapped := atHome(4, 4)
	swapped.Cells[13], swapped.Cells[14] = 15, 14
	for _, c := range []struct {
		what string
		g    api.Grid
		want bool
	}{
		{"at home", fifteen, true},
		{"14 and 15 changed", swapped, false},
		{"the example", board(3, 1, 2, 3, 4, 0, 5), true},
		{"the gap ahead of all", board(2, 0, 1, 2, 3), false},
		{"the gap ahead of all, two stones changed", board(2, 0, 2, 1, 3), true},
		{"the gap ahead of all, round", board(2, 0, 1, 3, 2), true},
		{"the gap ahead of fifteen", board(4, 0, 1, 2, 3, 4, 5, 6, 7, 8, 9, 10, 11, 12, 13, 14, 15), false},
		{"the gap ahead of eight", board(3, 0, 1, 2, 3, 4, 5, 6, 7, 8), true},
		{"backwards", board(3, 8, 7, 6, 5, 4, 3, 2, 1, 0), true},
		{"fifteen backwards", board(4, 15, 14, 13, 12, 11, 10, 9, 8, 7, 6, 5, 4, 3, 2, 1, 0), false},
	} {
		want := c.want
		if e := even(c.g); e != want {
			t.Errorf("%s: told otherwise by its cycles: %v", c.what, e)
		}
		if can, e := slide.Can(c.g); can != want || e != api.OK {
			t.Errorf("%s: %v, %d", c.what, can, e)
		}
	}
}

// All boards of up to nine places: those that moves make of the one at home can be brought there, and that is half of them.
func TestCanOfAll(t *testing.T) {
	for _, size := range [][2]int{{2, 2}, {3, 2}, {2, 3}, {4, 2}, {2, 4}, {3, 3}} {
		w, h := size[0], size[1]
		met := reached(w, h)
		all := orders(w, h)
		if len(met)*2 != len(all) {
			t.Fatalf("%d by %d: %d of %d boards are reached", w, h, len(met), len(all))
		}
		for _, g := range all {
			var places [9]int
			copy(places[:], g.Cells)
			if can, e := slide.Can(g); can != (met[places] != 0) || e != api.OK {
				t.Fatalf("Can(%v) = %v, %d", g, can, e)
			}
		}
	}
}

// Moves never change it, two stones that change places always do.
func TestCanOfMany(t *testing.T) {
	d := die(4)
	brings := 0
	for range 1000 {
		g := d.drawn(d.size())
		can, e := slide.Can(g)
		if can != even(g) || e != api.OK {
			t.Fatalf("Can(%v) = %v, %d", g, can, e)
		}
		if can {
			brings++
		}
		after, _, _ := slide.Do(g, d.directions(9))
		if now, e := slide.Can(after); now != can || e != api.OK {
			t.Fatalf("Can(%v) = %v, %d; ahead of moves %v", after, now, e, can)
		}
		one, other := 1+d.below(len(g.Cells)-1), 1+d.below(len(g.Cells)-1)
		i, j := slices.Index(g.Cells, one), slices.Index(g.Cells, other)
		g.Cells[i], g.Cells[j] = g.Cells[j], g.Cells[i]
		if now, e := slide.Can(g); now != (can == (one == other)) || e != api.OK {
			t.Fatalf("Can(%v) = %v, %d; with %d and %d changed %v", g, now, e, one, other, can)
		}
	}
	if brings < 400 || brings > 600 {
		t.Errorf("%d of 1000 can be brought home", brings)
	}
}

func TestLeast(t *testing.T) {
	for _, c := range []struct {
		what string
		g    api.Grid
		want int
	}{
		{"at home", atHome(5, 5), 0},
		{"the example", board(3, 1, 2, 3, 4, 0, 5), 1},
		{"the gap is not counted", board(3, 1, 2, 0, 4, 5, 3), 1},
		{"columns and rows", board(3, 5, 2, 3, 4, 1, 0), 4},
		{"from corner to corner", board(2, 0, 2, 3, 1), 2},
		{"backwards", board(3, 8, 7, 6, 5, 4, 3, 2, 1, 0), 16},
		{"a board that cannot be brought home", board(3, 2, 1, 3, 4, 5, 0), 2},
		{"as wide as can be", board(5, 5, 2, 3, 4, 1, 6, 7, 8, 9, 0), 8},
		{"as high as can be", board(2, 9, 2, 3, 4, 5, 6, 7, 8, 1, 0), 8},
	} {
		if least, e := slide.Least(c.g); least != c.want || e != api.OK {
			t.Errorf("%s: %d, %d; want %d", c.what, least, e, c.want)
		}
	}
}

func TestLeastOfMany(t *testing.T) {
	d := die(6)
	for range 2000 {
		g := d.drawn(d.size())
		if least, e := slide.Least(g); least != brought(g) || e != api.OK {
			t.Fatalf("Least(%v) = %d, %d; want %d", g, least, e, brought(g))
		}
		if least, e := slide.Least(mirrored(g)); least != brought(g) || e != api.OK {
			t.Fatalf("Least of the mirrored %v: %d, %d; want %d", g, least, e, brought(g))
		}
	}
}

// A move changes it by one, up or down.
func TestLeastAlongMoves(t *testing.T) {
	d := die(7)
	for range 500 {
		g := d.drawn(d.size())
		before, _ := slide.Least(g)
		after, n, _ := slide.Do(g, []int{d.below(4)})
		least, e := slide.Least(after)
		if by := least - before; by*by != n || e != api.OK {
			t.Fatalf("Least(%v) = %d, %d; %d moves ahead it was %d", after, least, e, n, before)
		}
	}
}

// P20.3

func TestHome(t *testing.T) {
	for _, c := range []struct {
		what string
		g    api.Grid
		want []int
		e    api.Errno
	}{
		{"the example", board(3, 1, 2, 3, 4, 0, 5), []int{left}, api.OK},
		{"at home", atHome(3, 2), nil, api.OK},
		{"at home, in two columns", atHome(2, 3), nil, api.OK},
		{"up", board(2, 1, 0, 3, 2), []int{up}, api.OK},
		{"round the least board", board(2, 0, 1, 3, 2), []int{left, up}, api.OK},
		{"two stones changed", board(2, 2, 1, 3, 0), nil, api.ErrNone},
		{"two stones of six changed", board(3, 1, 2, 3, 5, 4, 0), nil, api.ErrNone},
		{"more than six places, though at home", atHome(4, 2), nil, api.ErrSize},
		{"more than six places, one below the other", atHome(2, 4), nil, api.ErrSize},
		{"more than six places, and none", board(4, 2, 1, 3, 4, 5, 6, 7, 0), nil, api.ErrSize},
		{"the greatest", atHome(5, 5), nil, api.ErrSize},
	} {
		if l, e := slide.Home(c.g); !slices.Equal(l, c.want) || e != c.e {
			t.Errorf("%s: %v, %d; want %v, %d", c.what, l, e, c.want, c.e)
		}
	}
}

// Of all boards of up to six places: the moves can be made, lead home, and are as few as can be.
func TestHomeOfAll(t *testing.T) {
	for _, size := range small() {
		w, h := size[0], size[1]
		far := ways(w, h)
		longest := 0
		for _, g := range orders(w, h) {
			l, e := slide.Home(g)
			want, ok := far[text(g)]
			if !ok {
				if len(l) != 0 || e != api.ErrNone {
					t.Fatalf("Home(%v) = %v, %d", g, l, e)
				}
				continue
			}
			longest = max(longest, want)
			if len(l) != want || e != api.OK {
				t.Fatalf("Home(%v) = %v, %d; want %d moves", g, l, e, want)
			}
			for _, direction := range l {
				if g, ok = moved(g, direction); !ok {
					t.Fatalf("%v: there is no move %d at %v", l, direction, g)
				}
			}
			if text(g) != text(atHome(w, h)) {
				t.Fatalf("%v leads to %v", l, g)
			}
		}
		if want := map[int]int{4: 6, 6: 21}[w*h]; longest != want {
			t.Errorf("%d by %d: the longest has %d moves; want %d", w, h, longest, want)
		}
	}
}

// Home says what Can says, is never shorter than Least, odd where that is odd, and as long for the mirrored board.
func TestHomeBesideOthers(t *testing.T) {
	for _, size := range small() {
		for _, g := range orders(size[0], size[1]) {
			l, e := slide.Home(g)
			can, _ := slide.Can(g)
			least, _ := slide.Least(g)
			if can != (e == api.OK) {
				t.Fatalf("Home(%v): %d; Can: %v", g, e, can)
			}
			if can && (len(l) < least || (len(l)-least)%2 != 0) {
				t.Fatalf("Home(%v) = %v; Least: %d", g, l, least)
			}
			if m, f := slide.Home(mirrored(g)); len(m) != len(l) || f != e {
				t.Fatalf("Home(%v) = %v, %d; of the mirrored %v, %d", g, l, e, m, f)
			}
		}
	}
}

func TestCount(t *testing.T) {
	least := []int{1, 2, 2, 2, 2, 2, 1}
	six := []int{1, 2, 3, 5, 6, 7, 10, 12, 12, 16, 23, 25, 28, 39, 44, 40, 29, 21, 18, 12, 6, 1}
	for _, c := range []struct {
		w, h   int
		counts []int
	}{{2, 2, least}, {3, 2, six}, {2, 3, six}} {
		for steps := range api.MaxSteps + 1 {
			want := 0
			if steps < len(c.counts) {
				want = c.counts[steps]
			}
			if n, e := slide.Count(c.w, c.h, steps); n != want || e != api.OK {
				t.Errorf("Count(%d, %d, %d) = %d, %d; want %d", c.w, c.h, steps, n, e, want)
			}
		}
	}
}

// Counts of all boards by their ways: together they are half of the boards.
func TestCountOfAll(t *testing.T) {
	for _, size := range small() {
		w, h := size[0], size[1]
		counts := make([]int, api.MaxSteps+1)
		for _, k := range ways(w, h) {
			counts[k]++
		}
		sum := 0
		for steps, want := range counts {
			n, e := slide.Count(w, h, steps)
			if n != want || e != api.OK {
				t.Errorf("Count(%d, %d, %d) = %d, %d; want %d", w, h, steps, n, e, want)
			}
			sum += n
		}
		if sum*2 != len(orders(w, h)) {
			t.Errorf("%d by %d: %d boards", w, h, sum)
		}
	}
}

// Sizes come ahead of steps.
func TestCountRefuses(t *testing.T) {
	wrongSteps := append(strange(), -2, -1, api.MaxSteps+1, api.MaxSteps+2)
	check := func(w, h, steps int, want api.Errno) {
		t.Helper()
		if n, e := slide.Count(w, h, steps); n != 0 || e != want {
			t.Errorf("Count(%d, %d, %d) = %d, %d; want %d", w, h, steps, n, e, want)
		}
	}
	sizes := append(strange(), -3, -2, -1, 0, 1, 2, 3, 4, 5, 6, 7)
	for _, w := range sizes {
		for _, h := range sizes {
			if slices.Contains(small(), [2]int{w, h}) {
				continue
			}
			for _, steps := range append(wrongSteps, 0, 1, api.MaxSteps) {
				check(w, h, steps, api.ErrSize)
			}
		}
	}
	for _, size := range small() {
		for _, steps := range wrongSteps {
			check(size[0], size[1], steps, api.ErrRange)
		}
	}
}

// What holds everywhere

func TestListsAreLeftAlone(t *testing.T) {
	d := die(8)
	for range 200 {
		w, h := d.size()
		if d.below(2) == 0 {
			w, h = 3, 2
		}
		g := d.drawn(w, h)
		moves := d.directions(12)
		cellsBefore, movesBefore := slices.Clone(g.Cells), slices.Clone(moves)
		g.Cells, moves = roomy(g.Cells), roomy(moves)
		slide.May(g)
		slide.Can(g)
		slide.Least(g)
		slide.Home(g)
		slide.Do(g, moves)
		untouched(t, "a call", g.Cells, cellsBefore)
		untouched(t, "Do", moves, movesBefore)
	}
}

func TestAnswersAreNew(t *testing.T) {
	g := board(3, 4, 1, 2, 5, 0, 3)
	moves := []int{left, down}
	after, _, _ := slide.Do(g, moves)
	same, _, _ := slide.Do(g, nil)
	stopped, _, _ := slide.Do(g, []int{up})
	l, _ := slide.Home(g)
	want, wantL := slices.Clone(after.Cells), slices.Clone(l)
	for _, list := range [][]int{after.Cells, same.Cells, stopped.Cells, l} {
		scribble(list)
	}
	if text(g) != text(board(3, 4, 1, 2, 5, 0, 3)) || !slices.Equal(moves, []int{left, down}) {
		t.Fatalf("changes to answers changed what was handed in: %v, %v", g, moves)
	}
	if again, done, e := slide.Do(g, moves); !slices.Equal(again.Cells, want) || done != 2 || e != api.OK {
		t.Errorf("behind changes to answers: %v, %d, %d; want %v", again, done, e, want)
	}
	if again, e := slide.Home(g); !slices.Equal(again, wantL) || len(again) == 0 || e != api.OK {
		t.Errorf("behind changes to answers: %v, %d; want %v", again, e, wantL)
	}
}

func TestManyAtOnce(t *testing.T) {
	d := die(9)
	g := d.drawn(3, 2)
	moves := d.directions(6)
	ask := func(i int) string {
		after, done, e := slide.Do(g, moves[:i%6])
		can, f := slide.Can(after)
		least, h := slide.Least(after)
		l, j := slide.Home(after)
		n, k := slide.Count(2+i%2, 2, i%9)
		return fmt.Sprint(slide.May(after), after, done, e, can, f, least, h, l, j, n, k)
	}
	const many = 64
	var want, got [many]string
	for i := range want {
		want[i] = ask(i)
	}
	var all sync.WaitGroup
	for i := range got {
		all.Go(func() { got[i] = ask(i) })
	}
	all.Wait()
	if got != want {
		t.Error("many at once answer otherwise than one behind the other")
	}
}
