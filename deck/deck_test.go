package deck_test

import (
	"math"
	"slices"
	"strings"
	"testing"

	"gameroom/api"
	"gameroom/deck"
)

const spare = -77

// roomy gives a list with spare room, so that a call that writes behind its end is found out.
func roomy(l []int) []int {
	r := make([]int, len(l)+8)
	copy(r, l)
	for i := len(l); i < len(r); i++ {
		r[i] = spare
	}
	return r[:len(l)]
}

func untouched(t *testing.T, what string, l, before []int) {
	t.Helper()
	if !slices.Equal(l, before) {
		t.Errorf("%s changed what was handed in: %v, was %v", what, l, before)
	}
	for _, x := range l[len(l):cap(l)] {
		if x != spare {
			t.Errorf("%s wrote into the spare room of what was handed in", what)
			return
		}
	}
}

// scribble writes over a list and all its room: what else changes by it shares memory with it.
func scribble(l []int) {
	l = l[:cap(l)]
	for i := range l {
		l[i] = -99
	}
}

func upTo(n int) []int {
	l := make([]int, n)
	for i := range l {
		l[i] = i
	}
	return l
}

// orders tells all orders of n, number by number, without asking the package.
func orders(n int) [][]int {
	var all [][]int
	used := make([]bool, n)
	var grow func(l []int)
	grow = func(l []int) {
		if len(l) == n {
			all = append(all, slices.Clone(l))
			return
		}
		for x := range n {
			if !used[x] {
				used[x] = true
				grow(append(slices.Clone(l), x))
				used[x] = false
			}
		}
	}
	grow(nil)
	return all
}

// P1.1

func TestShow(t *testing.T) {
	const signs = "2c 2d 2h 2s 3c 3d 3h 3s 4c 4d 4h 4s 5c 5d 5h 5s 6c 6d 6h 6s 7c 7d 7h 7s 8c 8d 8h 8s 9c 9d 9h 9s Tc Td Th Ts Jc Jd Jh Js Qc Qd Qh Qs Kc Kd Kh Ks Ac Ad Ah As"
	for card, want := range strings.Fields(signs) {
		if s, e := deck.Show(card); s != want || e != api.OK {
			t.Errorf("Show(%d) = %q, %d; want %q", card, s, e, want)
		}
	}
}

func TestShowRefuses(t *testing.T) {
	for _, card := range []int{-1, 52, 53, -52, math.MinInt, math.MaxInt} {
		if s, e := deck.Show(card); s != "" || e != api.ErrRange {
			t.Errorf("Show(%d) = %q, %d; want ErrRange", card, s, e)
		}
	}
}

func TestReadIsShowBack(t *testing.T) {
	pictures := []string{"♣", "♦", "♥", "♠"}
	for card := range api.Cards {
		s, _ := deck.Show(card)
		told := []string{s, s[:1] + pictures[card%4]}
		if s[0] == 'T' {
			told = append(told, "10"+s[1:], "10"+pictures[card%4])
		}
		for _, s := range told {
			if c, e := deck.Read(s); c != card || e != api.OK {
				t.Errorf("Read(%q) = %d, %d; want %d", s, c, e, card)
			}
		}
	}
}

func TestReadRefuses(t *testing.T) {
	wrong := []string{
		"", "2", "c", "T", "10", "♣", "1c", "0c", "10", "11c", "01c", "12c", "20c", "100c", "1Tc", "T0c", "010c",
		"2x", "xc", "tc", "ac", "2C", "AS", "c2", "♣2", "cA", " 2c", "2c ", "2 c", "10 c", "10c ", "2cc", "2c♣", "22c", "AcAd",
		"♣♣", "10♣♣", "2♧", "2♤", "2♡", "2♢", "2♥\ufe0f", "２c", "2\x00", "\x002c",
		"2\xe2", "2\xe2\x99", "2\xe2\x99\xa3\xa3", "\xff\xff", "2\ufffd", "\ufffdc", "10\xff", "-2c", "+2c",
		strings.Repeat("2c", 1000), strings.Repeat("\xff", 1000),
	}
	for _, s := range wrong {
		if c, e := deck.Read(s); c != 0 || e != api.ErrForm {
			t.Errorf("Read(%q) = %d, %d; want ErrForm", s, c, e)
		}
	}
}

// P1.2

func TestRiffle(t *testing.T) {
	for _, c := range []struct {
		l, out, in []int
	}{
		{nil, nil, nil},
		{[]int{}, nil, nil},
		{[]int{7, 9}, []int{7, 9}, []int{9, 7}},
		{[]int{0, 1, 2, 3}, []int{0, 2, 1, 3}, []int{2, 0, 3, 1}},
		{[]int{5, 5, -1, math.MaxInt, math.MinInt, 0}, []int{5, math.MaxInt, 5, math.MinInt, -1, 0}, []int{math.MaxInt, 5, math.MinInt, 5, 0, -1}},
	} {
		if l, e := deck.Riffle(c.l, false); !slices.Equal(l, c.out) || e != api.OK {
			t.Errorf("Riffle(%v, false) = %v, %d; want %v", c.l, l, e, c.out)
		}
		if l, e := deck.Riffle(c.l, true); !slices.Equal(l, c.in) || e != api.OK {
			t.Errorf("Riffle(%v, true) = %v, %d; want %v", c.l, l, e, c.in)
		}
	}
}

func TestRiffleOfTheGreatestDeck(t *testing.T) {
	out, e := deck.Riffle(upTo(api.MaxDeck), false)
	in, f := deck.Riffle(upTo(api.MaxDeck), true)
	if len(out) != api.MaxDeck || len(in) != api.MaxDeck || e != api.OK || f != api.OK {
		t.Fatal(len(out), e, len(in), f)
	}
	half := api.MaxDeck / 2
	for i := range half {
		if out[2*i] != i || out[2*i+1] != half+i || in[2*i] != half+i || in[2*i+1] != i {
			t.Fatalf("pair %d: %v, %v", i, out[2*i:2*i+2], in[2*i:2*i+2])
		}
	}
}

func TestRiffleRefuses(t *testing.T) {
	for _, n := range []int{1, 3, 51, 103, 105, 106, 1000} {
		for _, in := range []bool{false, true} {
			if l, e := deck.Riffle(upTo(n), in); len(l) != 0 || e != api.ErrSize {
				t.Errorf("Riffle of %d things: %v, %d; want ErrSize", n, l, e)
			}
		}
	}
}

func TestRifflesBringTheDeckBack(t *testing.T) {
	for in, times := range map[bool]int{false: 8, true: 52} {
		l := upTo(52)
		for i := range times {
			l, _ = deck.Riffle(l, in)
			if back := slices.Equal(l, upTo(52)); back != (i == times-1) {
				t.Errorf("in %v: riffle %d of %d: back %v", in, i+1, times, back)
			}
		}
	}
}

func TestCut(t *testing.T) {
	for _, c := range []struct {
		l    []int
		n    int
		want []int
	}{
		{nil, 0, nil},
		{[]int{4}, 0, []int{4}},
		{[]int{4}, 1, []int{4}},
		{[]int{1, 2, 3, 4, 5}, 0, []int{1, 2, 3, 4, 5}},
		{[]int{1, 2, 3, 4, 5}, 2, []int{3, 4, 5, 1, 2}},
		{[]int{1, 2, 3, 4, 5}, 4, []int{5, 1, 2, 3, 4}},
		{[]int{1, 2, 3, 4, 5}, 5, []int{1, 2, 3, 4, 5}},
		{upTo(api.MaxDeck), api.MaxDeck - 1, append([]int{api.MaxDeck - 1}, upTo(api.MaxDeck-1)...)},
	} {
		if l, e := deck.Cut(c.l, c.n); !slices.Equal(l, c.want) || e != api.OK {
			t.Errorf("Cut(%v, %d) = %v, %d; want %v", c.l, c.n, l, e, c.want)
		}
	}
}

func TestCutRefuses(t *testing.T) {
	for _, c := range []struct {
		things, n int
		want      api.Errno
	}{
		{0, 1, api.ErrRange},
		{0, -1, api.ErrRange},
		{5, -1, api.ErrRange},
		{5, 6, api.ErrRange},
		{5, math.MinInt, api.ErrRange},
		{5, math.MaxInt, api.ErrRange},
		{api.MaxDeck, api.MaxDeck + 1, api.ErrRange},
		{api.MaxDeck + 1, 0, api.ErrSize},
		{api.MaxDeck + 1, -1, api.ErrSize},
		{api.MaxDeck + 1, 1000, api.ErrSize},
	} {
		if l, e := deck.Cut(upTo(c.things), c.n); len(l) != 0 || e != c.want {
			t.Errorf("Cut of %d things at %d: %v, %d; want %d", c.things, c.n, l, e, c.want)
		}
	}
}

// doublings: the least k above 0 for which 2^k is 1 beyond multiples of m: a riffle doubles a place.
func doublings(m int) int {
	x, k := 2%m, 1
	for x != 1%m {
		x, k = 2*x%m, k+1
	}
	return k
}

func TestOrder(t *testing.T) {
	for n := 0; n <= api.MaxDeck; n += 2 {
		out := 1
		if n > 0 {
			out = doublings(n - 1)
		}
		if k, e := deck.Order(n, false); k != out || e != api.OK {
			t.Errorf("Order(%d, false) = %d, %d; want %d", n, k, e, out)
		}
		if k, e := deck.Order(n, true); k != doublings(n+1) || e != api.OK {
			t.Errorf("Order(%d, true) = %d, %d; want %d", n, k, e, doublings(n+1))
		}
	}
	for _, c := range []struct {
		n    int
		in   bool
		want int
	}{{0, false, 1}, {0, true, 1}, {2, false, 1}, {2, true, 2}, {52, false, 8}, {52, true, 52}, {104, false, 51}, {104, true, 12}} {
		if k, e := deck.Order(c.n, c.in); k != c.want || e != api.OK {
			t.Errorf("Order(%d, %v) = %d, %d; want %d", c.n, c.in, k, e, c.want)
		}
	}
}

func TestOrderRefuses(t *testing.T) {
	for _, n := range []int{1, 51, 103, 105, 106, -1, -2, math.MinInt, math.MaxInt, math.MaxInt - 1} {
		for _, in := range []bool{false, true} {
			if k, e := deck.Order(n, in); k != 0 || e != api.ErrSize {
				t.Errorf("Order(%d, %v) = %d, %d; want ErrSize", n, in, k, e)
			}
		}
	}
}

// P1.3

func TestDeal(t *testing.T) {
	for _, c := range []struct {
		things, hands, each int
		want                [][]int
		left                []int
	}{
		{7, 3, 2, [][]int{{0, 3}, {1, 4}, {2, 5}}, []int{6}},
		{6, 3, 2, [][]int{{0, 3}, {1, 4}, {2, 5}}, nil},
		{4, 1, 3, [][]int{{0, 1, 2}}, []int{3}},
		{3, 2, 0, [][]int{{}, {}}, []int{0, 1, 2}},
		{0, 1, 0, [][]int{{}}, nil},
		{0, 10, 0, make([][]int, 10), nil},
		{11, 10, 1, [][]int{{0}, {1}, {2}, {3}, {4}, {5}, {6}, {7}, {8}, {9}}, []int{10}},
	} {
		hands, left, e := deck.Deal(upTo(c.things), c.hands, c.each)
		if !slices.EqualFunc(hands, c.want, slices.Equal) || !slices.Equal(left, c.left) || e != api.OK {
			t.Errorf("Deal of %d, %d hands, %d each: %v, %v, %d; want %v, %v", c.things, c.hands, c.each, hands, left, e, c.want, c.left)
		}
	}
}

func TestDealOfTheGreatestDeck(t *testing.T) {
	hands, left, e := deck.Deal(upTo(api.MaxDeck), 8, 13)
	if len(hands) != 8 || len(left) != 0 || e != api.OK {
		t.Fatal(len(hands), left, e)
	}
	for h, hand := range hands {
		for i, x := range hand {
			if len(hand) != 13 || x != 8*i+h {
				t.Fatalf("hand %d: %v", h, hand)
			}
		}
	}
}

func TestDealRefuses(t *testing.T) {
	for _, c := range []struct {
		things, hands, each int
		want                api.Errno
	}{
		{10, 0, 1, api.ErrSize},
		{10, -1, 1, api.ErrSize},
		{20, 11, 1, api.ErrSize},
		{10, math.MinInt, 1, api.ErrSize},
		{10, math.MaxInt, 0, api.ErrSize},
		{10, 2, -1, api.ErrSize},
		{10, 2, math.MinInt, api.ErrSize},
		{10, 0, 100, api.ErrSize},
		{0, 11, 1, api.ErrSize},
		{api.MaxDeck + 1, 2, 2, api.ErrSize},
		{api.MaxDeck + 1, 2, 1000, api.ErrSize},
		{10, 3, 4, api.ErrCount},
		{0, 1, 1, api.ErrCount},
		{9, 10, 1, api.ErrCount},
		{api.MaxDeck, 8, 14, api.ErrCount},
		{10, 2, math.MaxInt, api.ErrCount},
		{10, 2, math.MaxInt/2 + 1, api.ErrCount},
		{10, 4, 1 << 62, api.ErrCount},
		{10, 8, 1 << 61, api.ErrCount},
	} {
		hands, left, e := deck.Deal(upTo(c.things), c.hands, c.each)
		if len(hands) != 0 || len(left) != 0 || e != c.want {
			t.Errorf("Deal of %d, %d hands, %d each: %v, %v, %d; want %d", c.things, c.hands, c.each, hands, left, e, c.want)
		}
	}
}

// P1.4

func TestSign(t *testing.T) {
	swapped := upTo(api.MaxDeck)
	swapped[0], swapped[api.MaxDeck-1] = swapped[api.MaxDeck-1], swapped[0]
	back := upTo(103)
	slices.Reverse(back) // 103 * 51 pairs
	for _, c := range []struct {
		l    []int
		want int
	}{
		{nil, 1},
		{[]int{0}, 1},
		{[]int{0, 1}, 1},
		{[]int{1, 0}, -1},
		{[]int{2, 0, 1}, 1},
		{[]int{2, 1, 0}, -1},
		{[]int{3, 2, 1, 0}, 1},
		{upTo(api.MaxDeck), 1},
		{swapped, -1},
		{back, -1},
	} {
		if s, e := deck.Sign(c.l); s != c.want || e != api.OK {
			t.Errorf("Sign(%v) = %d, %d; want %d", c.l, s, e, c.want)
		}
	}
}

func TestSignOfOneBehindAnother(t *testing.T) {
	all := orders(4)
	for _, a := range all {
		for _, b := range all {
			both := make([]int, 4)
			for i := range both {
				both[i] = b[a[i]]
			}
			s, _ := deck.Sign(a)
			u, _ := deck.Sign(b)
			if p, e := deck.Sign(both); p != s*u || e != api.OK {
				t.Errorf("Sign(%v) = %d, %d; those of %v and %v: %d, %d", both, p, e, a, b, s, u)
			}
		}
	}
}

func TestNumberAndNth(t *testing.T) {
	for n := range 8 {
		for k, l := range orders(n) {
			if m, e := deck.Number(l); m != k || e != api.OK {
				t.Errorf("Number(%v) = %d, %d; want %d", l, m, e, k)
			}
			if o, e := deck.Nth(n, k); !slices.Equal(o, l) || e != api.OK {
				t.Errorf("Nth(%d, %d) = %v, %d; want %v", n, k, o, e, l)
			}
		}
	}
}

func TestOrdersOfTwelve(t *testing.T) {
	for _, c := range []struct {
		k int
		l []int
	}{
		{0, upTo(12)},
		{1, []int{0, 1, 2, 3, 4, 5, 6, 7, 8, 9, 11, 10}},
		{39916800, []int{1, 0, 2, 3, 4, 5, 6, 7, 8, 9, 10, 11}},
		{479001598, []int{11, 10, 9, 8, 7, 6, 5, 4, 3, 2, 0, 1}},
		{479001599, []int{11, 10, 9, 8, 7, 6, 5, 4, 3, 2, 1, 0}},
	} {
		if k, e := deck.Number(c.l); k != c.k || e != api.OK {
			t.Errorf("Number(%v) = %d, %d; want %d", c.l, k, e, c.k)
		}
		if l, e := deck.Nth(12, c.k); !slices.Equal(l, c.l) || e != api.OK {
			t.Errorf("Nth(12, %d) = %v, %d; want %v", c.k, l, e, c.l)
		}
	}
	for k := 0; k < 479001600; k += 1000003 {
		l, e := deck.Nth(12, k)
		if m, f := deck.Number(l); m != k || e != api.OK || f != api.OK {
			t.Errorf("Nth(12, %d) = %v, %d, whose number is %d, %d", k, l, e, m, f)
		}
	}
}

func TestNoOrder(t *testing.T) {
	for _, l := range [][]int{{1}, {-1}, {0, 0}, {1, 1}, {0, 2}, {1, 2}, {0, 1, 3}, {-1, 0, 1}, {0, 1, 1}, {2, 2, 0}, {math.MaxInt}, {0, math.MinInt}, {0, 1, 2, 3, 4, 5, 6, 7, 8, 9, 10, 10}} {
		if s, e := deck.Sign(l); s != 0 || e != api.ErrForm {
			t.Errorf("Sign(%v) = %d, %d; want ErrForm", l, s, e)
		}
		if k, e := deck.Number(l); k != 0 || e != api.ErrForm {
			t.Errorf("Number(%v) = %d, %d; want ErrForm", l, k, e)
		}
	}
}

func TestOrdersOfTooMany(t *testing.T) {
	twice := make([]int, api.MaxDeck+1)
	for _, l := range [][]int{upTo(api.MaxDeck + 1), twice, upTo(1000)} {
		if s, e := deck.Sign(l); s != 0 || e != api.ErrSize {
			t.Errorf("Sign of %d: %d, %d; want ErrSize", len(l), s, e)
		}
	}
	if s, e := deck.Sign(twice[:api.MaxDeck]); s != 0 || e != api.ErrForm {
		t.Errorf("Sign of noughts: %d, %d; want ErrForm", s, e)
	}
	for _, l := range [][]int{upTo(13), twice[:13], twice, upTo(1000)} {
		if k, e := deck.Number(l); k != 0 || e != api.ErrSize {
			t.Errorf("Number of %d: %d, %d; want ErrSize", len(l), k, e)
		}
	}
}

func TestNthRefuses(t *testing.T) {
	for _, c := range []struct {
		n, k int
		want api.Errno
	}{
		{-1, 0, api.ErrSize},
		{13, 0, api.ErrSize},
		{13, -1, api.ErrSize},
		{-1, -1, api.ErrSize},
		{math.MinInt, 0, api.ErrSize},
		{math.MaxInt, math.MaxInt, api.ErrSize},
		{0, 1, api.ErrRange},
		{0, -1, api.ErrRange},
		{1, 1, api.ErrRange},
		{3, 6, api.ErrRange},
		{3, -1, api.ErrRange},
		{12, 479001600, api.ErrRange},
		{12, math.MaxInt, api.ErrRange},
		{12, math.MinInt, api.ErrRange},
	} {
		if l, e := deck.Nth(c.n, c.k); len(l) != 0 || e != c.want {
			t.Errorf("Nth(%d, %d) = %v, %d; want %d", c.n, c.k, l, e, c.want)
		}
	}
}

// What holds everywhere

func TestWhatIsHandedInStays(t *testing.T) {
	for _, before := range [][]int{{}, {1, 0}, {2, 0, 3, 1}, {7, 7, -1, 4}, {0, 1, 2}, upTo(api.MaxDeck), upTo(api.MaxDeck + 1)} {
		l := roomy(before)
		for n := range 3 {
			a, _ := deck.Riffle(l, n == 0)
			scribble(a)
			untouched(t, "Riffle", l, before)
			b, _ := deck.Cut(l, n)
			scribble(b)
			untouched(t, "Cut", l, before)
			hands, left, _ := deck.Deal(l, 2, n)
			for _, hand := range hands {
				scribble(hand)
			}
			scribble(left)
			untouched(t, "Deal", l, before)
		}
		deck.Sign(l)
		untouched(t, "Sign", l, before)
		deck.Number(l)
		untouched(t, "Number", l, before)
	}
}

func TestListsOfADealShareNothing(t *testing.T) {
	hands, left, _ := deck.Deal(upTo(10), 3, 2)
	scribble(hands[0])
	scribble(hands[1])
	if !slices.Equal(hands[2], []int{2, 5}) || !slices.Equal(left, []int{6, 7, 8, 9}) {
		t.Error(hands, left)
	}
	scribble(hands[2])
	if !slices.Equal(left, []int{6, 7, 8, 9}) {
		t.Error(left)
	}
}

func TestAnswersShareNothing(t *testing.T) {
	a, _ := deck.Nth(5, 7)
	scribble(a)
	if b, _ := deck.Nth(5, 7); !slices.Equal(b, []int{0, 2, 1, 4, 3}) {
		t.Error(b)
	}
}
