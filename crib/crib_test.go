package crib_test

import (
	"math"
	"slices"
	"strings"
	"testing"

	"gameroom/api"
	"gameroom/crib"
)

const spare = -77

// roomy gives a list with spare room, so that a call that writes behind its end is found out.
func roomy(l []int) []int {
	r := make([]int, len(l)+8)
	copy(r, l)
	for i := len(l); i < len(r); i++ {
		r[i] = spare
	}
	return r[:len(l)]
}

func untouched(t *testing.T, what string, l, before []int) {
	t.Helper()
	if !slices.Equal(l, before) {
		t.Errorf("%s changed what was handed in: %v, was %v", what, l, before)
	}
	for _, x := range l[len(l):cap(l)] {
		if x != spare {
			t.Errorf("%s wrote into the spare room of what was handed in", what)
			return
		}
	}
}

// scribble writes over a list and all its room: what else changes by it shares memory with it.
func scribble(l []int) {
	l = l[:cap(l)]
	for i := range l {
		l[i] = -99
	}
}

// cards reads cards as people write them: "As Td 2c".
func cards(s string) []int {
	var l []int
	for _, w := range strings.Fields(s) {
		l = append(l, strings.Index("23456789TJQKA", w[:1])*4+strings.Index("cdhs", w[1:]))
	}
	return l
}

// place of a card's rank from 1 on, the ace first.
func place(card int) int {
	if card/4 == 12 {
		return 1
	}
	return card/4 + 2
}

func worth(card int) int {
	return []int{0, 1, 2, 3, 4, 5, 6, 7, 8, 9, 10, 10, 10, 10}[place(card)]
}

// inRow: have the cards ranks that follow each other, once sorted?
func inRow(l []int) bool {
	var p []int
	for _, c := range l {
		p = append(p, place(c))
	}
	slices.Sort(p)
	for i := range len(p) - 1 {
		if p[i]+1 != p[i+1] {
			return false
		}
	}
	return len(p) >= 3
}

func sum(l []int) int {
	n := 0
	for _, c := range l {
		n += worth(c)
	}
	return n
}

// plainShow goes through all sets of the five, and asks each whether it brings something.
func plainShow(hand []int, start int, isCrib bool) int {
	five := append(slices.Clone(hand), start)
	n, longest, ways := 0, 0, 0
	for set := range 1 << 5 {
		var l []int
		for i, c := range five {
			if set>>i&1 == 1 {
				l = append(l, c)
			}
		}
		if sum(l) == 15 {
			n += 2
		}
		if len(l) == 2 && place(l[0]) == place(l[1]) {
			n += 2
		}
		if inRow(l) && len(l) > longest {
			longest, ways = len(l), 0
		}
		if inRow(l) && len(l) == longest {
			ways++
		}
	}
	n += longest * ways
	suits := make(map[int]int)
	for _, c := range hand {
		suits[c%4]++
	}
	if suits[start%4] == 4 {
		n += 5
	} else if len(suits) == 1 && !isCrib {
		n += 4
	}
	if slices.Contains(hand, 36+start%4) { // the jack of that suit
		n++
	}
	return n
}

// plainKeep goes through all sets of places, in no order of its own.
func plainKeep(l []int) ([]int, int) {
	most, first := -1, []int(nil)
	for out := range 36 {
		a, b := out/6, out%6
		if a >= b {
			continue
		}
		var places, four []int
		for i, c := range l {
			if i != a && i != b {
				places, four = append(places, i), append(four, c)
			}
		}
		n := 0
		for start := range 52 {
			if !slices.Contains(l, start) {
				n += plainShow(four, start, false)
			}
		}
		if n > most || n == most && slices.Compare(places, first) < 0 {
			most, first = n, places
		}
	}
	var kept []int
	for _, p := range first {
		kept = append(kept, l[p])
	}
	return kept, most
}

func plainPeg(l []int) int {
	n := 0
	if s := sum(l); s == 15 || s == 31 {
		n = 2
	}
	alike, row := 1, 0
	for k := 2; k <= len(l); k++ {
		last := l[len(l)-k:]
		ranks := make(map[int]int)
		for _, c := range last {
			ranks[place(c)]++
		}
		if len(ranks) == 1 {
			alike = k
		}
		if inRow(last) {
			row = k
		}
	}
	if alike > 1 {
		return n + map[int]int{2: 2, 3: 6, 4: 12}[alike]
	}
	return n + row
}

// die gives numbers that look drawn, the same each time.
type die uint64

func (d *die) below(n int) int {
	*d = *d*6364136223846793005 + 1442695040888963407
	return int(uint64(*d>>33) % uint64(n))
}

// draw gives n unlike cards, often of few ranks or few suits: so that the rarer things come, too.
func (d *die) draw(n int) []int {
	var pack []int
	switch d.below(4) {
	case 0:
		for c := range 52 {
			pack = append(pack, c)
		}
	case 1: // few ranks, the highest one next to the lowest
		low := d.below(13)
		for c := range 16 {
			pack = append(pack, (4*low+c)%52)
		}
	case 2: // low cards
		for c := range 16 {
			pack = append(pack, (48+c)%52)
		}
	default: // one suit, and some more
		suit := d.below(4)
		for r := range 13 {
			pack = append(pack, 4*r+suit)
		}
		pack = append(pack, 4*d.below(13)+(suit+1)%4, 4*d.below(13)+(suit+2)%4)
	}
	for i := range n {
		j := i + d.below(len(pack)-i)
		pack[i], pack[j] = pack[j], pack[i]
	}
	return pack[:n]
}

// P3.1

func TestShow(t *testing.T) {
	for _, c := range []struct {
		hand, start string
		show, crib  int
	}{
		{"5c 5d 5s Jh", "5h", 29, 29},
		{"5c 5d 5h 5s", "Jh", 28, 28}, // the start is no jack in the hand
		{"5c 5d 5s Jc", "5h", 28, 28},
		{"2c 4d 6h 8s", "Kc", 0, 0},
		{"2c 4d 6h 8s", "Jc", 0, 0},
		{"2c 4d Jh 8s", "Kh", 1, 1},
		{"2c 4d Jh 8s", "Kc", 0, 0},
		// fifteens
		{"7c 8d 2h Qs", "Tc", 2, 2},
		{"7c 8d 8h Qs", "Ac", 6, 6},
		{"5c Td Jh Qs", "8c", 9, 9},
		{"Ac 2d 3h 4s", "5c", 7, 7}, // all five together, and a row of five
		{"7c 7d Ah As", "6c", 12, 12},
		{"Ac 4d Th 6s", "9c", 4, 4},
		// pairs
		{"9c 9d 2h Ks", "Ac", 2, 2},
		{"9c 9d 9h Ks", "Ac", 6, 6},
		{"9c 9d 9h 9s", "Ac", 12, 12},
		{"9c 9d Kh Ks", "Ac", 4, 4},
		{"9c 9d 9h Ks", "Kc", 8, 8},
		// rows
		{"9c Td Jh 2s", "Kc", 3, 3},
		{"9c Td Jh 2s", "Qc", 4, 4},
		{"9c Td Jh Ks", "Qc", 5, 5},
		{"Tc Td Jh Qs", "2c", 8, 8},   // a row twice, and a pair
		{"Tc Td Jh Js", "Qc", 16, 16}, // four rows, two pairs
		{"Tc Td Th Js", "Qc", 15, 15}, // three rows, three pairs
		{"Tc Td Jh Qs", "Kc", 10, 10}, // the longest only
		{"Ac 2d 3h 9s", "Kc", 7, 7},   // and two fifteens
		{"Qc Kd Ah 7s", "9c", 0, 0},   // no ace above the king
		{"Kc Ad 2h 7s", "9c", 0, 0},   // and no row round it
		{"Jc Qd Kh As", "9d", 3, 3},   // three, not four
		{"Ac 2d Qh Ks", "Jc", 3, 3},   // three, not five
		{"9c Td Qh Ks", "7c", 0, 0},   // two are no row
		{"4c 4d 5h 6s", "5c", 24, 24}, // four fifteens
		{"7c 7d 8h 9s", "8c", 24, 24}, // four fifteens
		{"3c 3d 3h 4s", "5c", 21, 21}, // 3, 3, 4, 5 three times
		{"6c 7d 8h 9s", "Tc", 9, 9},   // 6 9, 7 8
		// suits
		{"2c 4c 6c 8c", "Kd", 4, 0},
		{"2c 4c 6c 8c", "Kc", 5, 5},
		{"2c 4c 6c 8d", "Kc", 0, 0}, // four, but not the hand's
		{"2h 4h 8h Jh", "Kh", 6, 6},
		{"2s 4s 8s Js", "Kh", 4, 0},
		{"2s 4s 8s Jd", "Kd", 1, 1},
	} {
		hand, start := cards(c.hand), cards(c.start)[0]
		if n, e := crib.Show(hand, start, false); n != c.show || e != api.OK {
			t.Errorf("Show(%s, %s, false) = %d, %d; want %d", c.hand, c.start, n, e, c.show)
		}
		if n, e := crib.Show(hand, start, true); n != c.crib || e != api.OK {
			t.Errorf("Show(%s, %s, true) = %d, %d; want %d", c.hand, c.start, n, e, c.crib)
		}
	}
}

func TestShowsOfMany(t *testing.T) {
	d := die(11)
	for range 20000 {
		l := d.draw(5)
		for _, isCrib := range []bool{false, true} {
			want := plainShow(l[:4], l[4], isCrib)
			if n, e := crib.Show(l[:4], l[4], isCrib); n != want || e != api.OK {
				t.Errorf("Show(%v, %d, %v) = %d, %d; want %d", l[:4], l[4], isCrib, n, e, want)
			}
		}
	}
}

func TestShowHangsOnNoOrder(t *testing.T) {
	d := die(12)
	for range 500 {
		l := d.draw(5)
		want, _ := crib.Show(l[:4], l[4], false)
		hand := l[:4]
		for i := range hand {
			for j := range i {
				m := slices.Clone(hand)
				m[i], m[j] = m[j], m[i]
				if n, e := crib.Show(m, l[4], false); n != want || e != api.OK {
					t.Errorf("Show(%v, %d) = %d, %d; of %v it is %d", m, l[4], n, e, hand, want)
				}
			}
		}
	}
}

// TestAllHands: how often each number of points comes, with spades as the start's suit: a fourth of all.
func TestAllHands(t *testing.T) {
	all := [30]int{1009008, 99792, 2813796, 505008, 2855676, 697508, 1800268, 751324, 1137236, 361224, 388740, 51680, 317340, 19656, 90100, 9168, 58248, 11196, 2708, 0, 8068, 2496, 444, 356, 3680, 0, 0, 0, 76, 4}
	var got [30]int
	hand := make([]int, 4)
	for start := 3; start < 52; start += 4 {
		for a := range 52 {
			for b := range a {
				for c := range b {
					for d := range c {
						if a == start || b == start || c == start || d == start {
							continue
						}
						hand[0], hand[1], hand[2], hand[3] = a, b, c, d
						n, e := crib.Show(hand, start, false)
						if n < 0 || n >= len(got) || e != api.OK {
							t.Fatalf("Show(%v, %d) = %d, %d", hand, start, n, e)
						}
						got[n]++
					}
				}
			}
		}
	}
	for n := range got {
		if 4*got[n] != all[n] {
			t.Errorf("%d points come %d times; want %d", n, 4*got[n], all[n])
		}
	}
}

func TestShowRefuses(t *testing.T) {
	for _, c := range []struct {
		hand  []int
		start int
		want  api.Errno
	}{
		{nil, 0, api.ErrCount},
		{[]int{}, 52, api.ErrCount},
		{[]int{1, 2, 3}, 4, api.ErrCount},
		{[]int{1, 2, 3, 4, 5}, 6, api.ErrCount},
		{[]int{-1, -1, 3}, -1, api.ErrCount},
		{[]int{7, 7, 7, 7, 52}, 52, api.ErrCount},
		{make([]int, 100000), 6, api.ErrCount},
		{[]int{-1, 2, 3, 4}, 5, api.ErrRange},
		{[]int{1, 2, 3, 52}, 5, api.ErrRange},
		{[]int{1, 2, math.MaxInt, 4}, 5, api.ErrRange},
		{[]int{1, math.MinInt, 3, 4}, 5, api.ErrRange},
		{[]int{1, 2, 3, 4}, 52, api.ErrRange},
		{[]int{1, 2, 3, 4}, -1, api.ErrRange},
		{[]int{1, 2, 3, 4}, math.MinInt, api.ErrRange},
		{[]int{7, 7, 7, 7}, 52, api.ErrRange},
		{[]int{7, 7, -1, 3}, 7, api.ErrRange},
		{[]int{1, 2, 3, 3}, 5, api.ErrTwice},
		{[]int{0, 2, 3, 4}, 0, api.ErrTwice},
		{[]int{1, 2, 3, 51}, 51, api.ErrTwice},
		{[]int{9, 9, 9, 9}, 9, api.ErrTwice},
	} {
		for _, isCrib := range []bool{false, true} {
			if n, e := crib.Show(c.hand, c.start, isCrib); n != 0 || e != c.want {
				t.Errorf("Show(%v, %d, %v) = %d, %d; want %d", c.hand[:min(8, len(c.hand))], c.start, isCrib, n, e, c.want)
			}
		}
	}
}

// P3.2

func TestKeep(t *testing.T) {
	for _, c := range []struct {
		hand, kept string
	}{
		{"5c 5d 5s Jh 2c 9d", "5c 5d 5s Jh"},
		{"2c Jh 9d 5s 5c 5d", "Jh 5s 5c 5d"}, // as they stand
		{"Kc 5c 5d 5h 5s 2d", "5c 5d 5h 5s"},
		{"2c 4c 6c 8c Td Kh", "2c 4c 6c 8c"}, // one suit
		{"7c 7d 8h 8s Kd 2c", "7c 7d 8h 8s"}, // fifteens and pairs
		{"9c Td Jh Qs 2c 4d", "9c Td Jh Qs"}, // a row
		{"Ac Ad Ah As Kc Qd", "Ac Ad Ah As"}, // four alike
		{"6c 6d 7c 7d 8c 8d", "6c 7c 7d 8c"}, // each 6 with each 8 and both 7s brings as much
		{"8d 8c 7d 7c 6d 6c", "8d 7d 7c 6d"}, // so the first places are taken
	} {
		l := cards(c.hand)
		want, most := plainKeep(l)
		kept, n, e := crib.Keep(l)
		if !slices.Equal(kept, want) || n != most || e != api.OK {
			t.Errorf("Keep(%s) = %v, %d, %d; want %v, %d", c.hand, kept, n, e, want, most)
		}
		if !slices.Equal(kept, cards(c.kept)) {
			t.Errorf("Keep(%s) = %v; want %s", c.hand, kept, c.kept)
		}
	}
}

func TestKeepsOfMany(t *testing.T) {
	d := die(13)
	for range 150 {
		l := d.draw(6)
		want, most := plainKeep(l)
		if kept, n, e := crib.Keep(l); !slices.Equal(kept, want) || n != most || e != api.OK {
			t.Errorf("Keep(%v) = %v, %d, %d; want %v, %d", l, kept, n, e, want, most)
		}
	}
}

func TestKeepRefuses(t *testing.T) {
	for _, c := range []struct {
		l    []int
		want api.Errno
	}{
		{nil, api.ErrCount},
		{[]int{}, api.ErrCount},
		{[]int{1, 2, 3, 4}, api.ErrCount},
		{[]int{1, 2, 3, 4, 5}, api.ErrCount},
		{[]int{1, 2, 3, 4, 5, 6, 7}, api.ErrCount},
		{[]int{-1, -1, 52, 52, 7}, api.ErrCount},
		{make([]int, 100000), api.ErrCount},
		{[]int{-1, 1, 2, 3, 4, 5}, api.ErrRange},
		{[]int{0, 1, 2, 3, 4, 52}, api.ErrRange},
		{[]int{0, 1, math.MinInt, 3, 4, 5}, api.ErrRange},
		{[]int{0, 1, 2, math.MaxInt, 4, 5}, api.ErrRange},
		{[]int{7, 7, 7, 7, 7, 52}, api.ErrRange},
		{[]int{0, 0, 2, 3, 4, 5}, api.ErrTwice},
		{[]int{51, 1, 2, 3, 4, 51}, api.ErrTwice},
		{[]int{9, 9, 9, 9, 9, 9}, api.ErrTwice},
	} {
		if kept, n, e := crib.Keep(c.l); len(kept) != 0 || n != 0 || e != c.want {
			t.Errorf("Keep(%v) = %v, %d, %d; want %d", c.l[:min(8, len(c.l))], kept, n, e, c.want)
		}
	}
}

// P3.3

func TestPeg(t *testing.T) {
	for _, c := range []struct {
		l    string
		want int
	}{
		{"5c", 0},
		{"Ac", 0},
		{"Kc", 0},
		// all points together
		{"5c Kd", 2},
		{"7c 8d", 2},
		{"Kc Qd Jh", 3},
		{"Kc Qd Th Ac", 2},
		{"Kc 4d Qh 7s", 2},
		{"Tc 5d 5h Js", 0}, // 30
		{"Tc 4d", 0},
		{"Ac 3d 7h 4s", 2},
		// alike
		{"5c 5d", 2},
		{"Kc Kd", 2},
		{"Kc Qd", 0}, // the same points are not the same rank
		{"Ac Ad", 2},
		{"5c 5d 5h", 6 + 2},
		{"4c 4d 4h", 6},
		{"4c 4d 4h 4s", 12},
		{"7c Ac Ad Ah As", 12},
		{"Kc 4c 4d 4h 4s", 12},
		{"9c 6d 6h", 2},
		{"2c 2d 9h 2s", 2}, // those are 15; the two do not follow one another
		{"2c 2d 8h 2s", 0},
		{"3c 3d 9h", 2},
		{"5c 3d 3h 3s Ad Ah", 2},
		{"5c 2d 3h 3s Ad Ah", 2 + 2},
		{"Jc Jd Ah Kc", 2},
		{"9c 4d 9h 9s", 2 + 2},
		// rows
		{"4c 5d 6h", 3 + 2},
		{"6c 4d 5h", 3 + 2},
		{"3c 4d 5h", 3},
		{"3c 5d 4h", 3},
		{"2c 3d", 0},
		{"Ac 2d 3h", 3},
		{"3c Ad 2h", 3},
		{"Ac 2d 3h 4s", 4},
		{"Ac 2d 3h 4s 5c", 5 + 2},
		{"Ac 2d 3h 4s 5c 6d", 6},
		{"Ac 2d 3h 4s 5c 6d 7h", 7},
		{"7c 2d 5h 4s 6c Ad 3h", 7},
		{"Kc 7d 5h 6s", 3},
		{"2c 9d 3h 4s 5c", 3},
		{"3c 9d 3h 4s 5c", 3},
		{"2c Kd Ah 2s 3c", 3},
		{"3c 2d Ah 2s 3h", 3}, // two of a rank among the last four
		{"4c 3d 2h As 3c", 3}, // the last three
		{"4c 3d 2h 2s As 3c", 3 + 2},
		{"2c 3d 4h 4s 5c", 0}, // a pair between
		{"2c 3d 4h 4s", 2},    // a pair, and no row
		{"Ac Kd Qh", 0},       // no ace above the king
		{"Kc Ad 2h", 0},       // and no row round it
		{"9c Td Jh", 3},
		{"4c 6d 8h", 0},
		{"7c 5d 6h 8s", 4},
		{"8c 7d 6h Ts", 2}, // 31, and a gap in the row
		{"9c 7d 8h 6s", 4},
		{"6c 7d 8h 4s 5c", 5},
		{"Ac Ad Ah As 2c 2d 2h 2s 3c 3d 3h 3s 4c", 0},
		{"Ac 3c Ad 3d Ah 3h As 3s 2c 2d 2h 2s 7c", 2},
	} {
		l := cards(c.l)
		if n, e := crib.Peg(l); n != c.want || e != api.OK || plainPeg(l) != c.want {
			t.Errorf("Peg(%s) = %d, %d; want %d (plainly %d)", c.l, n, e, c.want, plainPeg(l))
		}
	}
}

func TestPegsOfMany(t *testing.T) {
	d := die(14)
	for range 30000 {
		l := d.draw(1 + d.below(13))
		want, no := plainPeg(l), api.OK
		if sum(l) > 31 {
			want, no = 0, api.ErrOver
		}
		if n, e := crib.Peg(l); n != want || e != no {
			t.Errorf("Peg(%v) = %d, %d; want %d, %d", l, n, e, want, no)
		}
	}
}

func TestPegRefuses(t *testing.T) {
	for _, c := range []struct {
		l    []int
		want api.Errno
	}{
		{nil, api.ErrCount},
		{[]int{}, api.ErrCount},
		{cards("Ac Ad Ah As 2c 2d 2h 2s 3c 3d 3h 3s 4c 4d"), api.ErrCount}, // more than 31, too
		{[]int{-1, 0, 0, 0, 0, 0, 0, 0, 0, 0, 0, 0, 0, 0}, api.ErrCount},
		{make([]int, 100000), api.ErrCount},
		{[]int{-1}, api.ErrRange},
		{[]int{52}, api.ErrRange},
		{[]int{math.MinInt}, api.ErrRange},
		{[]int{0, math.MaxInt}, api.ErrRange},
		{[]int{3, 3, 52}, api.ErrRange},
		{cards("Kc Kc Kc Kc Kc 2d 2d 2d 2d 2d 2d 2d 2d")[:13], api.ErrTwice},
		{[]int{44, 45, 46, 47, -1}, api.ErrRange},
		{[]int{3, 3}, api.ErrTwice},
		{[]int{44, 45, 46, 47, 44}, api.ErrTwice},
		{cards("Kc Kd Kh 2s"), api.ErrOver},
		{cards("Tc Jd Qh Ks"), api.ErrOver},
		{cards("Kc Kd Kh As Ac"), api.ErrOver},
		{cards("9c Td Jh 3s"), api.ErrOver},
		{cards("Ac Ad Ah As 2c 2d 2h 2s 3c 3d 3h 3s 8c"), api.ErrOver},
		{cards("2c 2d 2h 2s 3c 3d 3h 3s 4c 4d 4h 4s 5c"), api.ErrOver},
	} {
		if n, e := crib.Peg(c.l); n != 0 || e != c.want {
			t.Errorf("Peg(%v) = %d, %d; want %d", c.l[:min(14, len(c.l))], n, e, c.want)
		}
	}
}

// What holds everywhere

func TestWhatIsHandedInStays(t *testing.T) {
	for _, before := range [][]int{{}, {0, 4, 8}, {51, 3, 7, 20}, {12, 13, 15, 38}, {5, 5, 5, 5}, {52, 1, 2, 3}, {8, 9, 10, 11, 0, 1}, {1, 0, 11, 10, 9, 8}, {7, 7, 7, 7, 7, 7}, {-1, 1, 2, 3, 4, 5}} {
		l := roomy(before)
		crib.Show(l, 14, false)
		crib.Show(l, 14, true)
		untouched(t, "Show", l, before)
		kept, _, _ := crib.Keep(l)
		scribble(kept)
		untouched(t, "Keep", l, before)
		crib.Peg(l)
		untouched(t, "Peg", l, before)
	}
}

func TestAnswersShareNothing(t *testing.T) {
	l := cards("2c Jh 9d 5s 5c 5d")
	a, _, _ := crib.Keep(l)
	b, _, _ := crib.Keep(l)
	scribble(a)
	if want, _ := plainKeep(l); !slices.Equal(b, want) {
		t.Errorf("Keep(%v) = %v; want %v", l, b, want)
	}
}
