package bridge_test

import (
	"math"
	"slices"
	"strings"
	"testing"

	"gameroom/api"
	"gameroom/bridge"
)

const spare = -77

// roomy gives a list with spare room, so that a call that writes behind its end is found out.
func roomy(l []int) []int {
	r := make([]int, len(l)+8)
	copy(r, l)
	for i := len(l); i < len(r); i++ {
		r[i] = spare
	}
	return r[:len(l)]
}

func untouched(t *testing.T, what string, l, before []int) {
	t.Helper()
	if !slices.Equal(l, before) {
		t.Errorf("%s changed what was handed in: %v, was %v", what, l, before)
	}
	for _, x := range l[len(l):cap(l)] {
		if x != spare {
			t.Errorf("%s wrote into the spare room of what was handed in", what)
			return
		}
	}
}

// die gives numbers that look drawn, the same each time.
type die uint64

func (d *die) below(n int) int {
	*d = *d*6364136223846793005 + 1442695040888963407
	return int(uint64(*d>>33) % uint64(n))
}

// draw gives n unlike cards, often of few ranks or few suits.
func (d *die) draw(n int) []int {
	var pack []int
	low, high, suits := 0, 13, 4
	switch d.below(3) {
	case 0:
		low, high = 5, 5+(n+3)/4+d.below(3)
	case 1:
		suits = 2 + d.below(2)
	}
	for rank := low; rank < high; rank++ {
		for suit := range suits {
			pack = append(pack, 4*rank+suit)
		}
	}
	for i := range n {
		j := i + d.below(len(pack)-i)
		pack[i], pack[j] = pack[j], pack[i]
	}
	return pack[:n]
}

// cards reads cards as people write them: "As Td 2c".
func cards(s string) []int {
	var l []int
	for _, w := range strings.Fields(s) {
		l = append(l, strings.Index("23456789TJQKA", w[:1])*4+strings.Index("cdhs", w[1:]))
	}
	return l
}

// hands reads four of them: "As Ks | Qs Js | Ts 9s | 8s 7s".
func hands(s string) [][]int {
	var l [][]int
	for _, w := range strings.Split(s, "|") {
		l = append(l, cards(w))
	}
	return l
}

// split deals cards out to four players, in pieces.
func split(l []int) [][]int {
	n := len(l) / 4
	return [][]int{l[:n], l[n : 2*n], l[2*n : 3*n], l[3*n:]}
}

// calls reads an auction: "1C - X XX 3N".
func calls(s string) []int {
	var l []int
	for _, w := range strings.Fields(s) {
		switch w {
		case "-":
			l = append(l, 0)
		case "X":
			l = append(l, 1)
		case "XX":
			l = append(l, 2)
		default:
			l = append(l, 3+5*int(w[0]-'1')+strings.Index("CDHSN", w[1:]))
		}
	}
	return l
}

// plainTrick gives each card a weight, and takes the heaviest.
func plainTrick(l []int, strain int) int {
	weights := make([]int, 4)
	for i, c := range l {
		if c%4 == l[0]%4 {
			weights[i] = 100 + c/4
		}
		if c%4 == strain {
			weights[i] = 200 + c/4
		}
	}
	return slices.Index(weights, slices.Max(weights))
}

// plainMay: has the hand a card of that suit?
func plainMay(hand []int, led, card int) bool {
	for _, c := range hand {
		if led >= 0 && c%4 == led%4 && card%4 != led%4 {
			return false
		}
	}
	return true
}

// plainBest tries all rows of cards, and remembers nothing.
func plainBest(hands [][]int, strain, leader int, put []int) int {
	if len(put) == 4 {
		won := (leader + plainTrick(put, strain)) % 4
		return 1 - won%2 + plainBest(hands, strain, won, nil)
	}
	player := (leader + len(put)) % 4
	hand, led := hands[player], -1
	if len(hand) == 0 {
		return 0
	}
	if len(put) > 0 {
		led = put[0]
	}
	best := -1
	for i, c := range hand {
		if !plainMay(hand, led, c) {
			continue
		}
		rest := slices.Clone(hands)
		rest[player] = slices.Delete(slices.Clone(hand), i, i+1)
		n := plainBest(rest, strain, leader, append(slices.Clone(put), c))
		if best < 0 || player%2 == 0 && n > best || player%2 == 1 && n < best {
			best = n
		}
	}
	return best
}

// plainAuction looks back at all calls before each.
func plainAuction(l []int) (api.Contract, api.Errno) {
	for i, call := range l {
		if call < 0 || call > 37 {
			return api.Contract{}, api.ErrRange
		}
		if plainOver(l[:i]) {
			return api.Contract{}, api.ErrOver
		}
		if !plainCall(l[:i], call) {
			return api.Contract{}, api.ErrRule
		}
	}
	if !plainOver(l) {
		return api.Contract{}, api.ErrEnd
	}
	if slices.Max(l) == 0 {
		return api.Contract{}, api.ErrNone
	}
	var c api.Contract
	bid, side := slices.Max(l), slices.Index(l, slices.Max(l))%2
	c.Level, c.Strain = 1+(bid-3)/5, (bid-3)%5
	for _, call := range l[slices.Index(l, bid):] {
		if call == 1 || call == 2 {
			c.Doubled = call
		}
	}
	for i := len(l) - 1; i >= 0; i-- {
		if l[i] > 2 && (l[i]-3)%5 == c.Strain && i%2 == side {
			c.Declarer = i % 4
		}
	}
	return c, api.OK
}

func plainOver(l []int) bool {
	n := len(l)
	return n >= 4 && slices.Max(l[n-3:]) == 0 && (n == 4 || slices.Max(l[:n-3]) > 0)
}

func plainCall(before []int, call int) bool {
	if call == 0 {
		return true
	}
	if call > 2 {
		return len(before) == 0 || call > max(2, slices.Max(before))
	}
	for back := 1; back <= len(before); back++ { // the last one that is no pass
		if last := before[len(before)-back]; last != 0 {
			return back%2 == 1 && (call == 1 && last > 2 || call == 2 && last == 1)
		}
	}
	return false
}

// P4.1

func TestTrick(t *testing.T) {
	for _, c := range []struct {
		l      string
		strain int
		want   int
	}{
		{"2c 3c 4c 5c", 4, 3},
		{"5c 4c 3c 2c", 4, 0},
		{"Kc Ac Qc Jc", 4, 1},
		{"9c Tc Jc 2c", 4, 2},
		{"2c As Ah Ad", 4, 0}, // other suits do not take
		{"2c As 3c Ad", 4, 2},
		{"2c As Ah Ad", 3, 1}, // a trump does
		{"Ac 2s Kc Qc", 3, 1},
		{"Ac 2s 3s Qc", 3, 2}, // the highest trump
		{"Ac 4s 3s Qc", 3, 1},
		{"Ac 4s 3s 5s", 3, 3},
		{"2s As Ah Ad", 3, 1}, // trumps that were led
		{"2s Ac Ah Ad", 3, 0},
		{"Ad 2c Kd Qd", 0, 1},
		{"Ah 2d Kh Qh", 1, 1},
		{"Ac 2h Kc Qc", 2, 1},
		{"Ac 2h Kc Qc", 4, 0},
		{"2h Ad 3h Ac", 3, 2}, // no trump came
		{"2h Ad 3c 4s", 1, 1},
		{"2h Kd Ad Qd", 1, 2},
	} {
		if n, e := bridge.Trick(cards(c.l), c.strain); n != c.want || e != api.OK {
			t.Errorf("Trick(%s, %d) = %d, %d; want %d", c.l, c.strain, n, e, c.want)
		}
	}
}

func TestTricksOfMany(t *testing.T) {
	d := die(41)
	for range 20000 {
		l := d.draw(4)
		for strain := range 5 {
			want := plainTrick(l, strain)
			if n, e := bridge.Trick(l, strain); n != want || e != api.OK {
				t.Errorf("Trick(%v, %d) = %d, %d; want %d", l, strain, n, e, want)
			}
		}
	}
}

func TestTrickRefuses(t *testing.T) {
	for _, c := range []struct {
		l      []int
		strain int
		want   api.Errno
	}{
		{nil, 0, api.ErrCount},
		{[]int{}, 5, api.ErrCount},
		{[]int{1, 2, 3}, 0, api.ErrCount},
		{[]int{1, 2, 3, 4, 5}, 0, api.ErrCount},
		{[]int{-1, 7, 7}, 5, api.ErrCount},
		{make([]int, 100000), 5, api.ErrCount},
		{[]int{-1, 2, 3, 4}, 0, api.ErrRange},
		{[]int{1, 2, 3, 52}, 0, api.ErrRange},
		{[]int{1, math.MinInt, 3, 4}, 5, api.ErrRange},
		{[]int{1, 2, math.MaxInt, 4}, -1, api.ErrRange},
		{[]int{7, 7, 7, 52}, 5, api.ErrRange},
		{[]int{7, 1, 2, 7}, 0, api.ErrTwice},
		{[]int{0, 0, 2, 7}, 5, api.ErrTwice},
		{[]int{9, 9, 9, 9}, -1, api.ErrTwice},
		{[]int{1, 2, 3, 4}, 5, api.ErrKind},
		{[]int{1, 2, 3, 4}, -1, api.ErrKind},
		{[]int{1, 2, 3, 4}, math.MaxInt, api.ErrKind},
		{[]int{0, 51, 3, 4}, math.MinInt, api.ErrKind},
	} {
		if n, e := bridge.Trick(c.l, c.strain); n != 0 || e != c.want {
			t.Errorf("Trick(%v, %d) = %d, %d; want %d", c.l[:min(8, len(c.l))], c.strain, n, e, c.want)
		}
	}
}

func TestMay(t *testing.T) {
	for _, c := range []struct {
		hand, led, card string
		want            bool
	}{
		{"2c 3d 4h", "", "2c", true}, // none was led
		{"2c 3d 4h", "", "3d", true},
		{"2c 3d 4h", "Ac", "2c", true},
		{"2c 3d 4h", "Ac", "3d", false},
		{"2c 3d 4h", "Ad", "3d", true},
		{"2c 3d 4h", "Ad", "4h", false},
		{"2c 3d 4h", "As", "2c", true}, // none of the suit
		{"2c 3d 4h", "As", "4h", true},
		{"Ac 2c", "Kc", "2c", true}, // it need not be higher
		{"2s", "Ac", "2s", true},
		{"2s", "", "2s", true},
		{"Ac 3d", "2c", "3d", false}, // the two of clubs is the card that is numbered 0
		{"Ad 2c", "2d", "2c", false},
		{"As 2c", "As", "2c", false}, // that the hand has it is not asked
		{"As 2c", "As", "As", true},
	} {
		led := -1
		if c.led != "" {
			led = cards(c.led)[0]
		}
		if ok, e := bridge.May(cards(c.hand), led, cards(c.card)[0]); ok != c.want || e != api.OK {
			t.Errorf("May(%s, %s, %s) = %v, %d; want %v", c.hand, c.led, c.card, ok, e, c.want)
		}
	}
}

func TestMayOfMany(t *testing.T) {
	d := die(42)
	for range 3000 {
		hand := d.draw(1 + d.below(8))
		for led := -1; led < 52; led++ {
			for _, card := range hand {
				want := plainMay(hand, led, card)
				if ok, e := bridge.May(hand, led, card); ok != want || e != api.OK {
					t.Errorf("May(%v, %d, %d) = %v, %d; want %v", hand, led, card, ok, e, want)
				}
			}
		}
	}
	all := make([]int, 52)
	for i := range all {
		all[i] = i
	}
	for card := range all {
		if ok, e := bridge.May(all, 17, card); ok != (card%4 == 1) || e != api.OK {
			t.Errorf("May(all, 17, %d) = %v, %d", card, ok, e)
		}
	}
}

func TestMayRefuses(t *testing.T) {
	for _, c := range []struct {
		hand      []int
		led, card int
		want      api.Errno
	}{
		{[]int{1, 2}, -1, -1, api.ErrRange},
		{[]int{1, 2}, -1, 52, api.ErrRange},
		{[]int{1, 2}, 52, 1, api.ErrRange},
		{[]int{1, 2}, -2, 1, api.ErrRange},
		{[]int{1, 2}, math.MinInt, 1, api.ErrRange},
		{[]int{1, 2}, math.MaxInt, 1, api.ErrRange},
		{[]int{1, 2}, 0, math.MinInt, api.ErrRange},
		{[]int{1, 2}, 0, math.MaxInt, api.ErrRange},
		{[]int{1, -1}, 0, 1, api.ErrRange},
		{[]int{52, 1}, 0, 1, api.ErrRange},
		{[]int{52}, 0, 52, api.ErrRange},
		{[]int{-1}, -1, -1, api.ErrRange},
		{nil, -2, 0, api.ErrRange},
		{nil, -1, 52, api.ErrRange},
		{[]int{1, 1}, -2, 1, api.ErrRange}, // ahead of the one that is there twice
		{[]int{1, 1}, -1, 52, api.ErrRange},
		{[]int{1, 1, 52}, -1, 3, api.ErrRange},
		{[]int{1, 1}, -1, 1, api.ErrTwice},
		{[]int{5, 1, 5}, 9, 3, api.ErrTwice}, // ahead of the place
		{make([]int, 100000), 0, 0, api.ErrTwice},
		{[]int{1, 2}, -1, 3, api.ErrPlace},
		{[]int{1, 2}, 3, 3, api.ErrPlace},
		{nil, -1, 0, api.ErrPlace},
		{[]int{}, 51, 51, api.ErrPlace},
	} {
		if ok, e := bridge.May(c.hand, c.led, c.card); ok || e != c.want {
			t.Errorf("May(%v, %d, %d) = %v, %d; want %d", c.hand[:min(8, len(c.hand))], c.led, c.card, ok, e, c.want)
		}
	}
}

// P4.2

func TestBest(t *testing.T) {
	for _, c := range []struct {
		hands          string
		strain, leader int
		want           int
	}{
		{"Ac | Kc | Qc | Jc", 4, 0, 1},
		{"Ac | Kc | Qc | Jc", 4, 3, 1},
		{"Qc | Ac | Kc | Jc", 4, 0, 0},
		{"Qc | Jc | Ac | Kc", 4, 1, 1},
		{"2c | Ad | Ah | As", 4, 0, 1}, // nobody can follow
		{"2c | Ad | Ah | As", 4, 1, 0},
		{"2c | Ad | Ah | As", 3, 0, 0}, // but a trump takes
		{"2c | Ad | Ah | As", 0, 3, 1},
		{"As Ks Qs Js | 2c 3c 4c 5c | 2d 3d 4d 5d | 2h 3h 4h 5h", 4, 0, 4},
		{"As Ks Qs Js | 2c 3c 4c 5c | 2d 3d 4d 5d | 2h 3h 4h 5h", 4, 1, 0}, // whoever wins leads
		{"As Ks Qs Js | 2c 3c 4c 5c | 2d 3d 4d 5d | 2h 3h 4h 5h", 4, 2, 4},
		{"As Ks Qs Js | 2c 3c 4c 5c | 2d 3d 4d 5d | 2h 3h 4h 5h", 3, 1, 4}, // all trumps
		{"As Ks Qs Js | 2c 3c 4c 5c | 2d 3d 4d 5d | 2h 3h 4h 5h", 0, 0, 0},
		// ace and queen over or under the king: who has to play ahead of whom
		{"As Qs | 3c 3d | 2s 3s | Ks 4s", 4, 0, 1},
		{"As Qs | Ks 4s | 2s 3s | 3c 3d", 4, 2, 1},
		{"As Qs | 3c 3d | 2s 3s | Ks 4s", 4, 2, 2},
		{"As Qs | 3c 3d | 2s 3s | Ks 4s", 4, 3, 2},
		{"As Qs | Ks 4s | 2s 3s | 3c 3d", 4, 1, 2}, // whoever has the king leads it up to both
		// a trump on each side, or on one alone
		{"Ac 2h | 3c 3d | 2c As | 4c 4d", 3, 0, 2},
		{"Ac 2h | 3c 3h | 2c Ks | 4c As", 3, 0, 1},
	} {
		l := hands(c.hands)
		plain := plainBest(l, c.strain, c.leader, nil)
		if n, e := bridge.Best(l, c.strain, c.leader); n != c.want || plain != c.want || e != api.OK {
			t.Errorf("Best(%s, %d, %d) = %d, %d; want %d (plainly %d)", c.hands, c.strain, c.leader, n, e, c.want, plain)
		}
	}
}

func TestBestOfMany(t *testing.T) {
	d := die(43)
	check := func(n int) {
		l, strain, leader := split(d.draw(4*n)), d.below(5), d.below(4)
		want := plainBest(l, strain, leader, nil)
		if got, e := bridge.Best(l, strain, leader); got != want || e != api.OK {
			t.Errorf("Best(%v, %d, %d) = %d, %d; want %d", l, strain, leader, got, e, want)
		}
	}
	for range 2000 {
		check(1)
		check(2)
	}
	for range 400 {
		check(3)
	}
	for range 40 {
		check(4)
	}
}

func TestBestMovedOn(t *testing.T) {
	d := die(44)
	for range 100 {
		l := split(d.draw(16))
		strain, leader := d.below(5), d.below(4)
		a, e := bridge.Best(l, strain, leader)
		b, f := bridge.Best([][]int{l[3], l[0], l[1], l[2]}, strain, (leader+1)%4)
		if a+b != 4 || e != api.OK || f != api.OK {
			t.Errorf("Best(%v, %d, %d) = %d, %d; moved on by one %d, %d", l, strain, leader, a, e, b, f)
		}
		slices.Reverse(l[0])
		if c, f := bridge.Best(l, strain, leader); c != a || f != api.OK {
			t.Errorf("Best(%v, %d, %d) = %d, %d; in another order %d", l, strain, leader, c, f, a)
		}
	}
}

func TestBestRefuses(t *testing.T) {
	for _, c := range []struct {
		hands          [][]int
		strain, leader int
		want           api.Errno
	}{
		{nil, 0, 0, api.ErrCount},
		{[][]int{}, 5, 4, api.ErrCount},
		{[][]int{{1}, {2}, {3}}, 0, 0, api.ErrCount},
		{[][]int{{1}, {2}, {3}, {4}, {5}}, 0, 0, api.ErrCount},
		{make([][]int, 4), 0, 0, api.ErrCount}, // no cards
		{[][]int{{}, {}, {}, {}}, 0, 0, api.ErrCount},
		{[][]int{{1}, {2}, {3}, {}}, 0, 0, api.ErrCount},
		{[][]int{{}, {2}, {3}, {4}}, 0, 0, api.ErrCount},
		{[][]int{{1, 5}, {2}, {3}, {4}}, 0, 0, api.ErrCount},
		{[][]int{{1}, {2}, {3}, {4, 5}}, 0, 0, api.ErrCount},
		{[][]int{{1}, {2, 6}, {3}, {4}}, 5, 4, api.ErrCount},
		{[][]int{{0, 1, 2, 3, 4}, {5, 6, 7, 8, 9}, {10, 11, 12, 13, 14}, {15, 16, 17, 18, 19}}, 0, 0, api.ErrCount},
		{[][]int{{-1}, {-1}, {52}}, 5, 4, api.ErrCount},
		{[][]int{{1}, {2}, {3}, {52}}, 0, 0, api.ErrRange},
		{[][]int{{-1}, {2}, {3}, {4}}, 5, 4, api.ErrRange},
		{[][]int{{1, 2}, {3, math.MaxInt}, {5, 6}, {7, 8}}, 0, 0, api.ErrRange},
		{[][]int{{1, 2}, {3, 4}, {math.MinInt, 6}, {7, 8}}, 0, 0, api.ErrRange},
		{[][]int{{1, 1}, {1, 1}, {1, 1}, {1, 52}}, -1, -1, api.ErrRange},
		{[][]int{{1}, {2}, {3}, {1}}, 0, 0, api.ErrTwice},
		{[][]int{{1, 1}, {3, 4}, {5, 6}, {7, 8}}, 0, 0, api.ErrTwice},
		{[][]int{{1, 2}, {3, 4}, {5, 2}, {7, 8}}, 5, 4, api.ErrTwice},
		{[][]int{{1}, {2}, {3}, {4}}, 5, 0, api.ErrKind},
		{[][]int{{1}, {2}, {3}, {4}}, -1, 4, api.ErrKind},
		{[][]int{{1}, {2}, {3}, {4}}, math.MinInt, -1, api.ErrKind},
		{[][]int{{1}, {2}, {3}, {4}}, 0, 4, api.ErrPlace},
		{[][]int{{1}, {2}, {3}, {4}}, 4, -1, api.ErrPlace},
		{[][]int{{1}, {2}, {3}, {4}}, 4, math.MinInt, api.ErrPlace},
		{[][]int{{0}, {51}, {3}, {4}}, 0, math.MaxInt, api.ErrPlace},
	} {
		if n, e := bridge.Best(c.hands, c.strain, c.leader); n != 0 || e != c.want {
			t.Errorf("Best(%v, %d, %d) = %d, %d; want %d", c.hands, c.strain, c.leader, n, e, c.want)
		}
	}
}

// P4.3

func TestAuction(t *testing.T) {
	for _, c := range []struct {
		calls string
		want  api.Contract
		e     api.Errno
	}{
		{"1C - - -", api.Contract{Level: 1, Strain: 0, Doubled: 0, Declarer: 0}, api.OK},
		{"- 1D - - -", api.Contract{Level: 1, Strain: 1, Doubled: 0, Declarer: 1}, api.OK},
		{"- - 1H - - -", api.Contract{Level: 1, Strain: 2, Doubled: 0, Declarer: 2}, api.OK},
		{"- - - 7N - - -", api.Contract{Level: 7, Strain: 4, Doubled: 0, Declarer: 3}, api.OK},
		{"- - - 6S - - -", api.Contract{Level: 6, Strain: 3, Doubled: 0, Declarer: 3}, api.OK},
		// who of the side was first
		{"1S - 4S - - -", api.Contract{Level: 4, Strain: 3, Doubled: 0, Declarer: 0}, api.OK},
		{"1C - 1S - 4S - - -", api.Contract{Level: 4, Strain: 3, Doubled: 0, Declarer: 2}, api.OK},
		{"1S 2S 4S - - -", api.Contract{Level: 4, Strain: 3, Doubled: 0, Declarer: 0}, api.OK},
		{"1S 2S - 4S - - -", api.Contract{Level: 4, Strain: 3, Doubled: 0, Declarer: 1}, api.OK}, // the other side's is none
		{"1S - 2H 3H 3S 4H - - -", api.Contract{Level: 4, Strain: 2, Doubled: 0, Declarer: 3}, api.OK},
		{"- 1N - 2C - 2D - 3N - - -", api.Contract{Level: 3, Strain: 4, Doubled: 0, Declarer: 1}, api.OK},
		// doubles
		{"1C X - - -", api.Contract{Level: 1, Strain: 0, Doubled: 1, Declarer: 0}, api.OK},
		{"1C - - X - - -", api.Contract{Level: 1, Strain: 0, Doubled: 1, Declarer: 0}, api.OK},
		{"1C X XX - - -", api.Contract{Level: 1, Strain: 0, Doubled: 2, Declarer: 0}, api.OK},
		{"1C X - - XX - - -", api.Contract{Level: 1, Strain: 0, Doubled: 2, Declarer: 0}, api.OK},
		{"1C - - X - - XX - - -", api.Contract{Level: 1, Strain: 0, Doubled: 2, Declarer: 0}, api.OK},
		{"1C X 1D - - -", api.Contract{Level: 1, Strain: 1, Doubled: 0, Declarer: 2}, api.OK}, // a bid takes it away
		{"1C X XX 1D - - -", api.Contract{Level: 1, Strain: 1, Doubled: 0, Declarer: 3}, api.OK},
		{"1C X XX 1D X - - -", api.Contract{Level: 1, Strain: 1, Doubled: 1, Declarer: 3}, api.OK},
		{"1C X 1D X XX - - -", api.Contract{Level: 1, Strain: 1, Doubled: 2, Declarer: 2}, api.OK},
		{"- - - 1N - - X XX - - -", api.Contract{Level: 1, Strain: 4, Doubled: 2, Declarer: 3}, api.OK},
		// what may not be
		{"1C 1C", api.Contract{}, api.ErrRule},
		{"1D 1C", api.Contract{}, api.ErrRule},
		{"1N 1S - - -", api.Contract{}, api.ErrRule},
		{"2C 1N - - -", api.Contract{}, api.ErrRule},
		{"2C - - 2C - - -", api.Contract{}, api.ErrRule},
		{"2C X 1N - - -", api.Contract{}, api.ErrRule},
		{"X", api.Contract{}, api.ErrRule},
		{"XX", api.Contract{}, api.ErrRule},
		{"- X", api.Contract{}, api.ErrRule},
		{"- - - XX", api.Contract{}, api.ErrRule},
		{"1C - X", api.Contract{}, api.ErrRule}, // of the own side
		{"1C XX", api.Contract{}, api.ErrRule},  // there is no double
		{"1C - XX", api.Contract{}, api.ErrRule},
		{"1C X X", api.Contract{}, api.ErrRule},
		{"1C X - X", api.Contract{}, api.ErrRule},
		{"1C X - - X", api.Contract{}, api.ErrRule},
		{"1C X - XX", api.Contract{}, api.ErrRule}, // of the own side
		{"1C X XX XX", api.Contract{}, api.ErrRule},
		{"1C X XX X", api.Contract{}, api.ErrRule},
		{"1C X XX - XX", api.Contract{}, api.ErrRule},
		{"1C X XX - - X", api.Contract{}, api.ErrRule},
		{"1C X 1D XX", api.Contract{}, api.ErrRule}, // another bid is not doubled
		{"1C X 1D - XX", api.Contract{}, api.ErrRule},
		// the end
		{"", api.Contract{}, api.ErrEnd},
		{"-", api.Contract{}, api.ErrEnd},
		{"- - -", api.Contract{}, api.ErrEnd},
		{"1C", api.Contract{}, api.ErrEnd},
		{"1C - -", api.Contract{}, api.ErrEnd},
		{"1C - - X", api.Contract{}, api.ErrEnd},
		{"1C - - X - -", api.Contract{}, api.ErrEnd},
		{"- - - 1C", api.Contract{}, api.ErrEnd},
		{"- - - 1C - -", api.Contract{}, api.ErrEnd},
		{"- - - -", api.Contract{}, api.ErrNone},
		{"- - - - -", api.Contract{}, api.ErrOver},
		{"- - - - 1C", api.Contract{}, api.ErrOver},
		{"- - - - X", api.Contract{}, api.ErrOver}, // it may not be, either
		{"1C - - - -", api.Contract{}, api.ErrOver},
		{"1C - - - 1D", api.Contract{}, api.ErrOver},
		{"1C - - - 1C", api.Contract{}, api.ErrOver},
		{"1C - - - X", api.Contract{}, api.ErrOver},
		{"1C X - - - -", api.Contract{}, api.ErrOver},
		{"1C X XX - - - -", api.Contract{}, api.ErrOver},
	} {
		l := calls(c.calls)
		plain, no := plainAuction(l)
		if got, e := bridge.Auction(l); got != c.want || e != c.e || plain != c.want || no != c.e {
			t.Errorf("Auction(%s) = %v, %d; want %v, %d (plainly %v, %d)", c.calls, got, e, c.want, c.e, plain, no)
		}
	}
}

func TestAuctionsOfMany(t *testing.T) {
	d := die(45)
	ended := make(map[api.Errno]int)
	for range 40000 {
		var l []int
		n := d.below(25)
		for len(l) < n {
			call := []int{0, 0, 0, 0, 1, 1, 2, 2, 3 + d.below(35), -1}[d.below(10)]
			if call < 0 && len(l) > 0 {
				call = max(2, slices.Max(l)) + 1 + d.below(3)
			}
			// Few calls are wrong, so that rows become long.
			if call >= 0 && call < 38 && plainCall(l, call) && !plainOver(l) || d.below(60) == 0 {
				l = append(l, call)
			} else {
				n--
			}
		}
		if d.below(3) > 0 {
			l = append(l, 0, 0, 0)
		}
		want, no := plainAuction(l)
		if c, e := bridge.Auction(l); c != want || e != no {
			t.Errorf("Auction(%v) = %v, %d; want %v, %d", l, c, e, want, no)
		}
		ended[no]++
	}
	for _, e := range []api.Errno{api.OK, api.ErrRange, api.ErrOver, api.ErrRule, api.ErrEnd, api.ErrNone} {
		if ended[e] < 100 {
			t.Errorf("only %d auctions end with %d", ended[e], e)
		}
	}
}

// TestLongestAuction: three passes ahead of the first bid; each bid doubled and redoubled behind two passes each; two passes ahead of each next bid, three behind the last one.
func TestLongestAuction(t *testing.T) {
	l := []int{0, 0, 0}
	for bid := 3; bid <= 37; bid++ {
		l = append(l, bid, 0, 0, 1, 0, 0, 2, 0, 0)
	}
	if _, e := bridge.Auction(l); e != api.ErrEnd {
		t.Errorf("two passes at the end: %d", e)
	}
	l = append(l, 0)
	if len(l) != 319 {
		t.Fatalf("%d calls", len(l))
	}
	want, _ := plainAuction(l)
	if c, e := bridge.Auction(l); c != want || c.Doubled != 2 || c.Level != 7 || c.Strain != 4 || e != api.OK {
		t.Errorf("the longest auction: %v, %d; want %v", c, e, want)
	}
	if c, e := bridge.Auction(append(l, make([]int, 100000)...)); c != (api.Contract{}) || e != api.ErrOver {
		t.Errorf("one that goes on: %v, %d", c, e)
	}
}

func TestAuctionRefusesTheFirst(t *testing.T) {
	for _, c := range []struct {
		l    []int
		want api.Errno
	}{
		{[]int{-1}, api.ErrRange},
		{[]int{38}, api.ErrRange},
		{[]int{math.MaxInt}, api.ErrRange},
		{[]int{math.MinInt}, api.ErrRange},
		{[]int{37, 38, 0, 0}, api.ErrRange},
		{[]int{37, 0, 0, 0, 38}, api.ErrRange}, // ahead of that it is over
		{[]int{0, 0, 0, 0, -1}, api.ErrRange},
		{[]int{3, 3, 38}, api.ErrRule}, // the first wrong one
		{[]int{3, 38, 3}, api.ErrRange},
		{[]int{3, 0, 0, 0, 0, 38}, api.ErrOver},
		{[]int{3, 1, 1, 0, 0, 0, 0}, api.ErrRule},
		{[]int{1, -1}, api.ErrRule},
		{[]int{3, 0, 1}, api.ErrRule}, // ahead of that it is not over
		{[]int{0, 0, 0, 0, 0, 1}, api.ErrOver},
	} {
		if got, e := bridge.Auction(c.l); got != (api.Contract{}) || e != c.want {
			t.Errorf("Auction(%v) = %v, %d; want %d", c.l, got, e, c.want)
		}
	}
}

// TestToldAgain: each contract can be told by an auction in which its declarer alone bids.
func TestToldAgain(t *testing.T) {
	for bid := 3; bid <= 37; bid++ {
		for doubled := range 3 {
			for player := range 4 {
				l := make([]int, player)
				l = append(append(append(l, bid), []int{1, 2}[:doubled]...), 0, 0, 0)
				want := api.Contract{Level: (bid + 2) / 5, Strain: (bid + 2) % 5, Doubled: doubled, Declarer: player}
				if c, e := bridge.Auction(l); c != want || e != api.OK {
					t.Errorf("Auction(%v) = %v, %d; want %v", l, c, e, want)
				}
			}
		}
	}
}

// P4.4

func TestScore(t *testing.T) {
	for _, c := range []struct {
		contract   string
		vulnerable bool
		tricks     int
		want       int
	}{
		{"3N", false, 9, 400},
		{"2S X", true, 7, -200},
		{"1C", false, 7, 70},
		{"1D", true, 7, 70},
		{"1H", false, 7, 80},
		{"1S", true, 8, 110},
		{"1N", false, 7, 90},
		{"1N", true, 9, 150},
		{"2C", false, 10, 130},
		{"3C", false, 9, 110},
		{"3S", true, 9, 140},
		{"4C", true, 10, 130},
		{"5C", false, 11, 400}, // just 100
		{"5D", true, 11, 600},
		{"4H", false, 10, 420},
		{"4S", true, 11, 650},
		{"3N", true, 10, 630},
		{"6D", false, 12, 920},
		{"6S", true, 12, 1430},
		{"6N", false, 13, 1020},
		{"7C", false, 13, 1440},
		{"7H", true, 13, 2210},
		{"7N", false, 13, 1520},
		{"7N", true, 13, 2220},
		{"1C X", false, 7, 140},
		{"1C X", true, 8, 340},
		{"2C X", false, 8, 180}, // 80
		{"2S X", false, 8, 470}, // 120
		{"2S X", true, 10, 1070},
		{"3C X", true, 9, 670},
		{"1N X", false, 7, 180}, // 80
		{"2N X", true, 8, 690},
		{"1C XX", false, 7, 230}, // 80
		{"1H XX", false, 7, 520}, // 120
		{"1N XX", true, 7, 760},
		{"1N XX", false, 13, 1760},
		{"1N XX", true, 13, 3160},
		{"7N X", true, 13, 2490},
		{"7N XX", true, 13, 2980},
		{"7C XX", false, 13, 1960},
		{"4S", false, 9, -50},
		{"4S", true, 9, -100},
		{"7N", false, 0, -650},
		{"7N", true, 0, -1300},
		{"4S X", false, 9, -100},
		{"4S X", false, 8, -300},
		{"4S X", false, 7, -500},
		{"4S X", false, 6, -800},
		{"4S X", true, 9, -200},
		{"4S X", true, 8, -500},
		{"4S X", true, 7, -800},
		{"4S XX", false, 9, -200},
		{"4S XX", false, 6, -1600},
		{"4S XX", true, 9, -400},
		{"4S XX", true, 8, -1000},
		{"7N X", false, 0, -3500},
		{"7N X", true, 0, -3800},
		{"7N XX", true, 0, -7600},
	} {
		l := calls(c.contract)
		k := api.Contract{Level: (l[0] + 2) / 5, Strain: (l[0] + 2) % 5, Doubled: slices.Max(append([]int{0}, l[1:]...))}
		for k.Declarer = range 4 {
			if n, e := bridge.Score(k, c.vulnerable, c.tricks); n != c.want || e != api.OK {
				t.Errorf("Score(%s, %v, %d) = %d, %d; want %d", c.contract, c.vulnerable, c.tricks, n, e, c.want)
			}
		}
	}
}

// plainScore reads what a contract brings from tables.
func plainScore(c api.Contract, vulnerable bool, tricks int) int {
	v := 0
	if vulnerable {
		v = 1
	}
	times := []int{1, 2, 4}[c.Doubled]
	if few := c.Level + 6 - tricks; few > 0 {
		lost := [2][14]int{
			{0, 100, 300, 500, 800, 1100, 1400, 1700, 2000, 2300, 2600, 2900, 3200, 3500},
			{0, 200, 500, 800, 1100, 1400, 1700, 2000, 2300, 2600, 2900, 3200, 3500, 3800},
		}
		return -[]int{few * (50 + 50*v), lost[v][few], 2 * lost[v][few]}[c.Doubled]
	}
	each := []int{20, 20, 30, 30, 30}[c.Strain]
	bid := times * (each*c.Level + []int{0, 0, 0, 0, 10}[c.Strain])
	sum := bid + 50
	if bid > 99 {
		sum = bid + []int{300, 500}[v]
	}
	sum += [2][8]int{{6: 500, 7: 1000}, {6: 750, 7: 1500}}[v][c.Level]
	sum += []int{0, 50, 100}[c.Doubled]
	return sum + (tricks-c.Level-6)*[]int{each, 100 + 100*v, 200 + 200*v}[c.Doubled]
}

func TestAllScores(t *testing.T) {
	for i := range 7 * 5 * 3 * 4 * 2 * 14 {
		c := api.Contract{Level: 1 + i%7, Strain: i / 7 % 5, Doubled: i / 35 % 3, Declarer: i / 105 % 4}
		vulnerable, tricks := i/420%2 == 1, i/840
		want := plainScore(c, vulnerable, tricks)
		if n, e := bridge.Score(c, vulnerable, tricks); n != want || e != api.OK {
			t.Errorf("Score(%v, %v, %d) = %d, %d; want %d", c, vulnerable, tricks, n, e, want)
		}
	}
}

func TestScoreRefuses(t *testing.T) {
	for _, c := range []struct {
		contract api.Contract
		tricks   int
	}{
		{api.Contract{}, 0},
		{api.Contract{Level: 0, Strain: 1, Doubled: 0, Declarer: 0}, 7},
		{api.Contract{Level: 8, Strain: 1, Doubled: 0, Declarer: 0}, 7},
		{api.Contract{Level: -1, Strain: 1, Doubled: 0, Declarer: 0}, 7},
		{api.Contract{Level: math.MaxInt, Strain: 1, Doubled: 0, Declarer: 0}, 7},
		{api.Contract{Level: math.MinInt, Strain: 1, Doubled: 0, Declarer: 0}, 7},
		{api.Contract{Level: 1, Strain: -1, Doubled: 0, Declarer: 0}, 7},
		{api.Contract{Level: 1, Strain: 5, Doubled: 0, Declarer: 0}, 7},
		{api.Contract{Level: 1, Strain: math.MaxInt, Doubled: 0, Declarer: 0}, 7},
		{api.Contract{Level: 1, Strain: 1, Doubled: -1, Declarer: 0}, 7},
		{api.Contract{Level: 1, Strain: 1, Doubled: 3, Declarer: 0}, 7},
		{api.Contract{Level: 1, Strain: 1, Doubled: math.MinInt, Declarer: 0}, 7},
		{api.Contract{Level: 1, Strain: 1, Doubled: 0, Declarer: -1}, 7},
		{api.Contract{Level: 1, Strain: 1, Doubled: 0, Declarer: 4}, 7},
		{api.Contract{Level: 1, Strain: 1, Doubled: 0, Declarer: math.MaxInt}, 7},
		{api.Contract{Level: 1, Strain: 1, Doubled: 0, Declarer: 0}, -1},
		{api.Contract{Level: 1, Strain: 1, Doubled: 0, Declarer: 0}, 14},
		{api.Contract{Level: 1, Strain: 1, Doubled: 0, Declarer: 0}, math.MaxInt},
		{api.Contract{Level: 7, Strain: 4, Doubled: 2, Declarer: 3}, math.MinInt},
	} {
		for _, vulnerable := range []bool{false, true} {
			if n, e := bridge.Score(c.contract, vulnerable, c.tricks); n != 0 || e != api.ErrRange {
				t.Errorf("Score(%v, %v, %d) = %d, %d; want %d", c.contract, vulnerable, c.tricks, n, e, api.ErrRange)
			}
		}
	}
}

// What holds everywhere

func TestWhatIsHandedInStays(t *testing.T) {
	for _, before := range [][]int{{}, {0, 4, 8}, {51, 3, 7, 20}, {20, 7, 3, 51}, {5, 5, 5, 5}, {52, 1, 2, 3}, {8, 9, 10, 11, 0, 1}} {
		l := roomy(before)
		for led := -1; led < 4; led++ {
			bridge.Trick(l, led)
			untouched(t, "Trick", l, before)
			bridge.May(l, led, 3)
			untouched(t, "May", l, before)
		}
	}
	for _, before := range [][]int{{}, {3, 0, 0, 0}, {0, 0, 0, 0}, {3, 1, 2, 4, 0, 0, 0}, {3, 3}, {38}} {
		l := roomy(before)
		bridge.Auction(l)
		untouched(t, "Auction", l, before)
	}
	d := die(46)
	for range 20 {
		before := split(d.draw(16))
		var l [][]int
		for _, hand := range before {
			l = append(l, roomy(hand))
		}
		all := append(l, []int{spare})[:4]
		bridge.Best(all, d.below(5), d.below(4))
		for i := range before {
			untouched(t, "Best", all[i], before[i])
		}
		if rest := all[:5][4]; len(rest) != 1 || rest[0] != spare {
			t.Errorf("Best wrote into the spare room of the hands")
		}
	}
}

func TestTheSameAgain(t *testing.T) {
	l := split(cards("As 3d 9h 2c Kd 4s 4h Tc 5s Qd 2h 7c 6s 8d Ah Jc"))
	a, _ := bridge.Best(l, 2, 1)
	for i := range 20 {
		bridge.Best(l, i%5, i%4)
		if b, e := bridge.Best(l, 2, 1); b != a || e != api.OK {
			t.Errorf("Best(%v, 2, 1) = %d, %d; was %d", l, b, e, a)
		}
	}
}
