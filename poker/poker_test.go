package poker_test

import (
	"math"
	"math/bits"
	"slices"
	"strings"
	"testing"

	"gameroom/api"
	"gameroom/poker"
)

const spare = -77

// roomy gives a list with spare room, so that a call that writes behind its end is found out.
func roomy(l []int) []int {
	r := make([]int, len(l)+8)
	copy(r, l)
	for i := len(l); i < len(r); i++ {
		r[i] = spare
	}
	return r[:len(l)]
}

func untouched(t *testing.T, what string, l, before []int) {
	t.Helper()
	if !slices.Equal(l, before) {
		t.Errorf("%s changed what was handed in: %v, was %v", what, l, before)
	}
	for _, x := range l[len(l):cap(l)] {
		if x != spare {
			t.Errorf("%s wrote into the spare room of what was handed in", what)
			return
		}
	}
}

// scribble writes over a list and all its room: what else changes by it shares memory with it.
func scribble(l []int) {
	l = l[:cap(l)]
	for i := range l {
		l[i] = -99
	}
}

// cards reads cards as people write them: "As Td 2c".
func cards(s string) []int {
	var l []int
	for _, w := range strings.Fields(s) {
		l = append(l, strings.Index("23456789TJQKA", w[:1])*4+strings.Index("cdhs", w[1:]))
	}
	return l
}

// worth is a value by its class and signs, as the chapter writes it down.
func worth(class int, signs ...int) int {
	v := class
	for i := range 5 {
		v *= 13
		if i < len(signs) {
			v += signs[i]
		}
	}
	return v
}

// fiveWorth is the value of five cards, found without asking the package.
func fiveWorth(l []int) int {
	times, suits := make(map[int]int), make(map[int]int)
	for _, c := range l {
		times[c/4]++
		suits[c%4]++
	}
	var signs, shape []int
	for n := 4; n > 0; n-- {
		for r := 12; r >= 0; r-- {
			if times[r] == n {
				signs, shape = append(signs, r), append(shape, n)
			}
		}
	}
	top := -1
	if slices.Equal(signs, []int{12, 3, 2, 1, 0}) {
		top = 3
	} else if len(signs) == 5 && signs[0] == signs[4]+4 {
		top = signs[0]
	}
	switch {
	case top >= 0 && len(suits) == 1:
		return worth(api.Run, top)
	case slices.Equal(shape, []int{4, 1}):
		return worth(api.Four, signs...)
	case slices.Equal(shape, []int{3, 2}):
		return worth(api.Full, signs...)
	case len(suits) == 1:
		return worth(api.Flush, signs...)
	case top >= 0:
		return worth(api.Straight, top)
	case shape[0] == 3:
		return worth(api.Three, signs...)
	case slices.Equal(shape, []int{2, 2, 1}):
		return worth(api.Pairs, signs...)
	case shape[0] == 2:
		return worth(api.Pair, signs...)
	}
	return worth(api.High, signs...)
}

// plainBest finds the greatest value and the first places with it over all sets of five, in no order of its own.
func plainBest(l []int) (int, []int) {
	value, first := -1, []int(nil)
	for set := range 1 << len(l) {
		if bits.OnesCount(uint(set)) != 5 {
			continue
		}
		var places, hand []int
		for i, c := range l {
			if set>>i&1 == 1 {
				places, hand = append(places, i), append(hand, c)
			}
		}
		v := fiveWorth(hand)
		if v > value || v == value && slices.Compare(places, first) < 0 {
			value, first = v, places
		}
	}
	var hand []int
	for _, place := range first {
		hand = append(hand, l[place])
	}
	return value, hand
}

// die gives numbers that look drawn, the same each time.
type die uint64

func (d *die) below(n int) int {
	*d = *d*6364136223846793005 + 1442695040888963407
	return int(uint64(*d>>33) % uint64(n))
}

// draw gives n unlike cards, often of few ranks or few suits: so that the rarer classes come, too.
func (d *die) draw(n int) []int {
	var pack []int
	switch d.below(3) {
	case 0:
		for c := range 52 {
			pack = append(pack, c)
		}
	case 1: // few ranks
		low := d.below(10)
		for c := range 12 {
			pack = append(pack, 4*low+c)
		}
	default: // one suit, and some more
		suit := d.below(4)
		for r := range 13 {
			pack = append(pack, 4*r+suit)
		}
		pack = append(pack, 4*d.below(13)+(suit+1)%4, 4*d.below(13)+(suit+2)%4)
	}
	for i := range n {
		j := i + d.below(len(pack)-i)
		pack[i], pack[j] = pack[j], pack[i]
	}
	return pack[:n]
}

// P2.1

func TestValueOfFive(t *testing.T) {
	for _, c := range []struct {
		hand  string
		class int
		signs []int
	}{
		{"As Ks Qs Js Ts", api.Run, []int{12}},
		{"9c Tc Jc Qc Kc", api.Run, []int{11}},
		{"6h 5h 4h 3h 2h", api.Run, []int{4}},
		{"Ad 2d 3d 4d 5d", api.Run, []int{3}},
		{"2c 2d 2h 2s 3c", api.Four, []int{0, 1}},
		{"Ac 2d 2h 2s 2c", api.Four, []int{0, 12}},
		{"Ac Ad Ah As Kc", api.Four, []int{12, 11}},
		{"2c 2d 2h 3c 3d", api.Full, []int{0, 1}},
		{"2c 2d Ah Ac Ad", api.Full, []int{12, 0}},
		{"2c 2d 2s Ac Ad", api.Full, []int{0, 12}},
		{"Ac Kc Qc Jc 9c", api.Flush, []int{12, 11, 10, 9, 7}},
		{"2s 3s 4s 5s 7s", api.Flush, []int{5, 3, 2, 1, 0}},
		{"Kh Ah 2h 3h 4h", api.Flush, []int{12, 11, 2, 1, 0}},
		{"As 2c 3d 4h 5s", api.Straight, []int{3}},
		{"5s 4c 2d 3h Ac", api.Straight, []int{3}},
		{"2s 6c 3d 4h 5s", api.Straight, []int{4}},
		{"Ts Jc Qd Kh As", api.Straight, []int{12}},
		{"9s Jc Qd Kh Ts", api.Straight, []int{11}},
		{"2c 2d 2h 3c 4d", api.Three, []int{0, 2, 1}},
		{"Ac Kd 2h 2c 2d", api.Three, []int{0, 12, 11}},
		{"3c 3d 2h 2c Ad", api.Pairs, []int{1, 0, 12}},
		{"Ac Ad Kh Kc 2d", api.Pairs, []int{12, 11, 0}},
		{"Ac 2c 3c 4c 2d", api.Pair, []int{0, 12, 2, 1}},
		{"5c 6d 7h 8s 5d", api.Pair, []int{3, 6, 5, 4}},
		{"Ks Ac 2d 3h 4s", api.High, []int{12, 11, 2, 1, 0}},
		{"Qs Kc Ad 2h 3s", api.High, []int{12, 11, 10, 1, 0}},
		{"Js Qs Ks As 2c", api.High, []int{12, 11, 10, 9, 0}},
		{"As 3c 4d 5h 6s", api.High, []int{12, 4, 3, 2, 1}},
		{"As 2c 3d 4h 6s", api.High, []int{12, 4, 2, 1, 0}},
		{"7s 5c 4d 3h 2s", api.High, []int{5, 3, 2, 1, 0}},
	} {
		l, want := cards(c.hand), worth(c.class, c.signs...)
		if v, e := poker.Value(l); v != want || e != api.OK {
			t.Errorf("Value(%s) = %d, %d; want %d", c.hand, v, e, want)
		}
		slices.Sort(l)
		if v, e := poker.Value(l); v != want || e != api.OK {
			t.Errorf("Value(%s), sorted = %d, %d; want %d", c.hand, v, e, want)
		}
		if k, e := poker.Class(want); k != c.class || e != api.OK {
			t.Errorf("Class(%d) = %d, %d; want %d", want, k, e, c.class)
		}
	}
}

func TestEachClassIsAboveTheOnesBelow(t *testing.T) {
	last := -1
	for _, hand := range []string{
		"2c 3d 4h 5s 7c", "Ac Kd Qh Js 9c", "2c 2d 3h 4s 5c", "Ac Ad Kh Qs Jc", "2c 2d 3h 3s 4c", "Ac Ad Kh Ks Qc",
		"2c 2d 2h 3s 4c", "Ac Ad Ah Ks Qc", "Ac 2d 3h 4s 5c", "2d 3h 4s 5c 6c", "Ac Kd Qh Js Tc", "2c 3c 4c 5c 7c", "Ac Kc Qc Jc 9c",
		"2c 2d 2h 3s 3c", "2c 2d 2h As Ac", "3c 3d 3h 2s 2c", "Ac Ad Ah Ks Kc", "2c 2d 2h 2s 3c", "Ac Ad Ah As Kc", "Ac 2c 3c 4c 5c", "2d 3d 4d 5d 6d", "As Ks Qs Js Ts",
	} {
		v, e := poker.Value(cards(hand))
		if v <= last || e != api.OK {
			t.Errorf("Value(%s) = %d, %d; the one ahead of it: %d", hand, v, e, last)
		}
		last = v
	}
}

// P2.2

func TestBestOfMore(t *testing.T) {
	for _, c := range []struct {
		l, best string
		value   int
	}{
		// The first of several with the same value, as they stand.
		{"2c 2d 2h 2s Ac Ad", "2c 2d 2h 2s Ac", worth(api.Four, 0, 12)},
		{"Ad 2c 2d Ac 2h 2s", "Ad 2c 2d 2h 2s", worth(api.Four, 0, 12)},
		{"3c Ad 2c 2d Ac 2h 2s", "Ad 2c 2d 2h 2s", worth(api.Four, 0, 12)},
		{"2c 2d 2h 3c 3d 3h 3s", "2c 3c 3d 3h 3s", worth(api.Four, 1, 0)},
		{"2c 2d 2h 3c 3d 3h", "2c 2d 3c 3d 3h", worth(api.Full, 1, 0)},
		{"2c 2d 3c 3d 4c 4d Ah", "3c 3d 4c 4d Ah", worth(api.Pairs, 2, 1, 12)},
		{"2c 2d 3c 3d 4c 4d", "2c 3c 3d 4c 4d", worth(api.Pairs, 2, 1, 0)},
		{"5c Ah As 2d 3h 4s 5d", "5c Ah 2d 3h 4s", worth(api.Straight, 3)},
		{"Ac 2d 3h 4s 5d 6c", "2d 3h 4s 5d 6c", worth(api.Straight, 4)},
		{"8c 7c 6c 5c 4c 3c 2c", "8c 7c 6c 5c 4c", worth(api.Run, 6)},
		{"2c 3c 4c 5c 6c 7d 8d", "2c 3c 4c 5c 6c", worth(api.Run, 4)},
		{"2c 4c 6c 8c Tc Qc Ac", "6c 8c Tc Qc Ac", worth(api.Flush, 12, 10, 8, 6, 4)},
		{"2c 3c 4c 5d 6d 7d 9c", "3c 4c 5d 6d 7d", worth(api.Straight, 5)},
		{"Ac Ad Ah Kc Kd Qc Qd", "Ac Ad Ah Kc Kd", worth(api.Full, 12, 11)},
		{"Qs 9d 7h 5c 3d 2h", "Qs 9d 7h 5c 3d", worth(api.High, 10, 7, 5, 3, 1)},
	} {
		l := cards(c.l)
		if v, e := poker.Value(l); v != c.value || e != api.OK {
			t.Errorf("Value(%s) = %d, %d; want %d", c.l, v, e, c.value)
		}
		if b, e := poker.Best(l); !slices.Equal(b, cards(c.best)) || e != api.OK {
			t.Errorf("Best(%s) = %v, %d; want %s", c.l, b, e, c.best)
		}
	}
}

func TestValueAndBestOfMany(t *testing.T) {
	d := die(7)
	for i := range 6000 {
		l := d.draw(5 + i%3)
		value, hand := plainBest(l)
		if v, e := poker.Value(l); v != value || e != api.OK {
			t.Errorf("Value(%v) = %d, %d; want %d", l, v, e, value)
		}
		if b, e := poker.Best(l); !slices.Equal(b, hand) || e != api.OK {
			t.Errorf("Best(%v) = %v, %d; want %v", l, b, e, hand)
		}
	}
}

func TestValueHangsOnNoOrderAndNoSuit(t *testing.T) {
	d := die(8)
	for range 500 {
		l := d.draw(7)
		v, _ := poker.Value(l)
		back, other := slices.Clone(l), slices.Clone(l)
		slices.Reverse(back)
		for i, c := range l {
			other[i] = c - c%4 + (c+3)%4
		}
		for _, m := range [][]int{back, other} {
			if w, e := poker.Value(m); w != v || e != api.OK {
				t.Errorf("Value(%v) = %d, %d; of %v it is %d", m, w, e, l, v)
			}
		}
		for n := 5; n < 7; n++ {
			if w, e := poker.Value(l[:n]); w > v || e != api.OK {
				t.Errorf("Value(%v) = %d, %d; with more cards %d", l[:n], w, e, v)
			}
		}
	}
}

func TestValueAndBestRefuse(t *testing.T) {
	for _, c := range []struct {
		l    []int
		want api.Errno
	}{
		{nil, api.ErrCount},
		{[]int{}, api.ErrCount},
		{[]int{0, 4, 8, 12}, api.ErrCount},
		{[]int{-1, 52, 52, 52}, api.ErrCount},
		{[]int{0, 1, 2, 3, 4, 5, 6, 7}, api.ErrCount},
		{[]int{0, 0, 0, 0, 0, 0, 0, 52}, api.ErrCount},
		{make([]int, 100000), api.ErrCount},
		{[]int{-1, 1, 2, 3, 4}, api.ErrRange},
		{[]int{0, 1, 2, 3, 52}, api.ErrRange},
		{[]int{0, 1, 2, 3, 4, 5, math.MinInt}, api.ErrRange},
		{[]int{0, 1, 2, 3, 4, math.MaxInt}, api.ErrRange},
		{[]int{7, 7, 7, 7, 52}, api.ErrRange},
		{[]int{52, 52, 52, 52, 52}, api.ErrRange},
		{[]int{0, 0, 2, 3, 4}, api.ErrTwice},
		{[]int{51, 1, 2, 3, 4, 51}, api.ErrTwice},
		{[]int{0, 1, 2, 3, 4, 50, 50}, api.ErrTwice},
		{[]int{9, 9, 9, 9, 9, 9, 9}, api.ErrTwice},
	} {
		if v, e := poker.Value(c.l); v != 0 || e != c.want {
			t.Errorf("Value of %d cards %v = %d, %d; want %d", len(c.l), c.l[:min(8, len(c.l))], v, e, c.want)
		}
		if b, e := poker.Best(c.l); len(b) != 0 || e != c.want {
			t.Errorf("Best of %d cards %v = %v, %d; want %d", len(c.l), c.l[:min(8, len(c.l))], b, e, c.want)
		}
	}
}

func TestClass(t *testing.T) {
	const step = 371293 // 13 five times
	for class := api.High; class <= api.Run; class++ {
		for _, v := range []int{class * step, class*step + 1, class*step + step - 1} {
			if c, e := poker.Class(v); c != class || e != api.OK {
				t.Errorf("Class(%d) = %d, %d; want %d", v, c, e, class)
			}
		}
	}
	for _, v := range []int{-1, -step, math.MinInt, (api.Run + 1) * step, (api.Run+1)*step + 1, math.MaxInt} {
		if c, e := poker.Class(v); c != 0 || e != api.ErrRange {
			t.Errorf("Class(%d) = %d, %d; want ErrRange", v, c, e)
		}
	}
}

// P2.3

func TestCounts(t *testing.T) {
	want := [9]int{api.High: 1302540, api.Pair: 1098240, api.Pairs: 123552, api.Three: 54912, api.Straight: 10200, api.Flush: 5108, api.Full: 3744, api.Four: 624, api.Run: 40}
	for range 2 {
		n := poker.Counts()
		if n != want {
			t.Errorf("Counts() = %v; want %v", n, want)
		}
		all := 0
		for _, x := range n {
			all += x
		}
		if all != 2598960 {
			t.Errorf("Counts() are %d together", all)
		}
	}
}

// P2.4

// plainShowdown fills the board up card by card, without asking the package.
func plainShowdown(a, b, board []int) (wins, ties, all int) {
	if len(board) == 5 {
		x, _ := plainBest(slices.Concat(a, board))
		y, _ := plainBest(slices.Concat(b, board))
		if x > y {
			wins = 1
		} else if x == y {
			ties = 1
		}
		return wins, ties, 1
	}
	known := slices.Concat(a, b, board)
	for c := range 52 {
		if slices.Contains(known, c) {
			continue
		}
		w, s, n := plainShowdown(a, b, slices.Concat(board, []int{c}))
		wins, ties, all = wins+w, ties+s, all+n
	}
	if left := 5 - len(board); left == 2 { // each set of two has come twice
		return wins / 2, ties / 2, all / 2
	}
	return wins, ties, all
}

func TestShowdown(t *testing.T) {
	for _, c := range []struct {
		a, b, board     string
		wins, ties, all int
	}{
		{"Ac Ad", "Kc Kd", "2h 7s 9h 3s Th", 1, 0, 1},
		{"Kc Kd", "Ac Ad", "2h 7s 9h 3s Th", 0, 0, 1},
		{"2c 3d", "4c 5d", "As Ks Qs Js Ts", 0, 1, 1},
		{"2c 3d", "2d 3c", "Ah Ks 9h", 0, 990, 990},
		{"Ac Ad", "Kc Kd", "2h 7s 9h 3s", 42, 0, 44}, // two kings are left
		{"Kc Kd", "Ac Ad", "2h 7s 9h 3s", 2, 0, 44},
		{"As Ks", "Qc Qd", "Qs Js Ts", 990, 0, 990}, // a run from the beginning
		{"Qc Qd", "As Ks", "Qs Js Ts", 0, 0, 990},
	} {
		wins, ties, all, e := poker.Showdown(cards(c.a), cards(c.b), cards(c.board))
		if wins != c.wins || ties != c.ties || all != c.all || e != api.OK {
			t.Errorf("Showdown(%s, %s, %s) = %d, %d, %d, %d; want %d, %d, %d", c.a, c.b, c.board, wins, ties, all, e, c.wins, c.ties, c.all)
		}
	}
}

func TestShowdownsOfMany(t *testing.T) {
	d := die(9)
	for i := range 60 {
		n := 5 - i%3
		if i%12 == 2 || n > 3 { // few boards of three, which take long to fill up plainly
			l := d.draw(4 + n)
			a, b, board := l[:2], l[2:4], l[4:]
			w, s, n := plainShowdown(a, b, board)
			wins, ties, all, e := poker.Showdown(a, b, board)
			if wins != w || ties != s || all != n || e != api.OK {
				t.Errorf("Showdown(%v, %v, %v) = %d, %d, %d, %d; want %d, %d, %d", a, b, board, wins, ties, all, e, w, s, n)
			}
			losses, same, all, e := poker.Showdown(b, a, board)
			if wins+losses+ties != all || same != ties || e != api.OK {
				t.Errorf("Showdown(%v, %v, %v) the other way: %d, %d, %d, %d; this way %d, %d", a, b, board, losses, same, all, e, wins, ties)
			}
		}
	}
}

func TestShowdownRefuses(t *testing.T) {
	two, three := []int{0, 1}, []int{2, 3}
	for _, c := range []struct {
		a, b, board []int
		want        api.Errno
	}{
		{nil, nil, nil, api.ErrCount},
		{two[:1], three, []int{10, 11, 12}, api.ErrCount},
		{nil, three, []int{10, 11, 12}, api.ErrCount},
		{[]int{0, 1, 4}, three, []int{10, 11, 12}, api.ErrCount},
		{two, three[:1], []int{10, 11, 12}, api.ErrCount},
		{two, []int{2, 3, 4}, []int{10, 11, 12}, api.ErrCount},
		{two, nil, []int{10, 11, 12}, api.ErrCount},
		{two, three, []int{10, 11}, api.ErrCount},
		{two, three, nil, api.ErrCount},
		{two, three, []int{10, 11, 12, 13, 14, 15}, api.ErrCount},
		{[]int{-1, 52}, []int{52, 52}, []int{10, 10}, api.ErrCount},
		{[]int{-1, 1, 2}, []int{52, 52}, []int{10, 10, 10}, api.ErrCount},
		{two, three, make([]int, 100000), api.ErrCount},
		{[]int{-1, 1}, three, []int{10, 11, 12}, api.ErrRange},
		{[]int{1, 52}, three, []int{10, 11, 12}, api.ErrRange},
		{two, []int{2, math.MaxInt}, []int{10, 11, 12}, api.ErrRange},
		{two, []int{math.MinInt, 2}, []int{10, 11, 12}, api.ErrRange},
		{two, three, []int{10, 11, 52}, api.ErrRange},
		{two, three, []int{10, 11, 12, -1}, api.ErrRange},
		{two, three, []int{10, 11, 12, 13, 99}, api.ErrRange},
		{[]int{7, 7}, three, []int{10, 11, 52}, api.ErrRange},
		{two, two, []int{10, 10, -1}, api.ErrRange},
		{[]int{7, 7}, three, []int{10, 11, 12}, api.ErrTwice},
		{two, []int{8, 8}, []int{10, 11, 12}, api.ErrTwice},
		{two, []int{4, 1}, []int{10, 11, 12}, api.ErrTwice},
		{two, three, []int{10, 11, 10}, api.ErrTwice},
		{two, three, []int{10, 11, 0}, api.ErrTwice},
		{two, three, []int{10, 11, 12, 3}, api.ErrTwice},
		{two, three, []int{10, 11, 12, 13, 13}, api.ErrTwice},
	} {
		wins, ties, all, e := poker.Showdown(c.a, c.b, c.board)
		if wins != 0 || ties != 0 || all != 0 || e != c.want {
			t.Errorf("Showdown(%v, %v, %v) = %d, %d, %d, %d; want %d", c.a, c.b, c.board[:min(6, len(c.board))], wins, ties, all, e, c.want)
		}
	}
}

// What holds everywhere

func TestWhatIsHandedInStays(t *testing.T) {
	for _, before := range [][]int{{}, {0, 4, 8, 12}, {51, 3, 7, 20, 33}, {51, 3, 7, 20, 33, 34}, {8, 9, 10, 11, 0, 1, 2}, {5, 5, 5, 5, 5}, {52, 1, 2, 3, 4}} {
		l := roomy(before)
		poker.Value(l)
		untouched(t, "Value", l, before)
		b, _ := poker.Best(l)
		scribble(b)
		untouched(t, "Best", l, before)
	}
	one, two := []int{51, 3}, []int{0, 22}
	for _, before := range [][]int{{}, {7, 20, 33}, {7, 20, 33, 34}, {7, 33, 20, 34, 50}, {7, 7, 7}, {-1, 1, 2}} {
		a, b, board := roomy(one), roomy(two), roomy(before)
		poker.Showdown(a, b, board)
		untouched(t, "Showdown", a, one)
		untouched(t, "Showdown", b, two)
		untouched(t, "Showdown", board, before)
	}
}

func TestAnswersShareNothing(t *testing.T) {
	l := []int{0, 1, 2, 3, 4, 5, 6}
	a, _ := poker.Best(l)
	b, _ := poker.Best(l)
	scribble(a)
	if _, want := plainBest(l); !slices.Equal(b, want) {
		t.Errorf("Best(%v) = %v; want %v", l, b, want)
	}
}
