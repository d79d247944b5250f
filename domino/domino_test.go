package domino_test

import (
	"math"
	"slices"
	"strings"
	"testing"

	"gameroom/api"
	"gameroom/domino"
)

var spare = [2]int{-77, -78}

// roomy gives a list with spare room, so that a call that writes behind its end is found out.
func roomy(l [][2]int) [][2]int {
	r := make([][2]int, len(l)+8)
	copy(r, l)
	for i := len(l); i < len(r); i++ {
		r[i] = spare
	}
	return r[:len(l)]
}

func untouched(t *testing.T, what string, l, before [][2]int) {
	t.Helper()
	if !slices.Equal(l, before) {
		t.Errorf("%s changed what was handed in: %v, was %v", what, l, before)
	}
	for _, x := range l[len(l):cap(l)] {
		if x != spare {
			t.Errorf("%s wrote into the spare room of what was handed in", what)
			return
		}
	}
}

// scribble overwrites a list and its spare room.
func scribble(l [][2]int) {
	l = l[:cap(l)]
	for i := range l {
		l[i] = spare
	}
}

// die gives numbers that look drawn, the same each time.
type die uint64

func (d *die) below(n int) int {
	*d = *d*6364136223846793005 + 1442695040888963407
	return int(uint64(*d>>33) % uint64(n))
}

// draw gives n pieces with less than so many pips.
func (d *die) draw(n, pips int) [][2]int {
	var l [][2]int
	for range n {
		l = append(l, [2]int{d.below(pips), d.below(pips)})
	}
	return l
}

// walk gives a row of n pieces.
func (d *die) walk(n, pips int) [][2]int {
	var l [][2]int
	end := d.below(pips)
	for range n {
		next := d.below(pips)
		l = append(l, [2]int{end, next})
		end = next
	}
	return l
}

// mix turns pieces and changes their order.
func (d *die) mix(l [][2]int) [][2]int {
	r := slices.Clone(l)
	for i := range r {
		j := i + d.below(len(r)-i)
		r[i], r[j] = r[j], r[i]
		if d.below(2) == 0 {
			r[i] = flip(r[i])
		}
	}
	return r
}

func flip(p [2]int) [2]int {
	return [2]int{p[1], p[0]}
}

// pieces reads them as they lie: "01 11 12".
func pieces(s string) [][2]int {
	var l [][2]int
	for _, w := range strings.Fields(s) {
		l = append(l, [2]int{int(w[0] - '0'), int(w[1] - '0')})
	}
	return l
}

func text(l [][2]int) string {
	var w []string
	for _, p := range l {
		w = append(w, string([]byte{byte('0' + p[0]), byte('0' + p[1])}))
	}
	return strings.Join(w, " ")
}

// plainRows lays pieces in all orders, turned and not, and keeps the texts of those that fit.
func plainRows(l [][2]int) map[string]bool {
	all := map[string]bool{}
	var lay func(row, left [][2]int)
	lay = func(row, left [][2]int) {
		if len(left) == 0 {
			all[text(row)] = true
			return
		}
		for i, piece := range left {
			rest := slices.Delete(slices.Clone(left), i, i+1)
			for way, p := range [][2]int{piece, flip(piece)} {
				if way == 1 && p == piece {
					continue // to lay it again would only take time
				}
				if len(row) == 0 || row[len(row)-1][1] == p[0] {
					lay(append(slices.Clone(row), p), rest)
				}
			}
		}
	}
	lay(nil, l)
	return all
}

// plainEuler: at most two numbers at an odd number of ends, and pieces from each number to each other one.
func plainEuler(l [][2]int) bool {
	var ends, group [10]int
	for i := range group {
		group[i] = i
	}
	for _, p := range l {
		ends[p[0]]++
		ends[p[1]]++
		from, to := group[p[0]], group[p[1]]
		for i := range group {
			if group[i] == from {
				group[i] = to
			}
		}
	}
	odd := 0
	for i := range ends {
		odd += ends[i] % 2
		if ends[i] > 0 && group[i] != group[l[0][0]] {
			return false
		}
	}
	return odd <= 2
}

func fits(l [][2]int) bool {
	for i := range l {
		if i > 0 && l[i-1][1] != l[i][0] {
			return false
		}
	}
	return true
}

// kinds sorts pieces, with none of them turned, so that lists of the same pieces are alike.
func kinds(l [][2]int) []string {
	var w []string
	for _, p := range l {
		w = append(w, min(text([][2]int{p}), text([][2]int{flip(p)})))
	}
	slices.Sort(w)
	return w
}

// laid: does Row answer as it should?
func laid(t *testing.T, l [][2]int, can bool) {
	t.Helper()
	row, e := domino.Row(l)
	switch {
	case !can && (e != api.ErrNone || len(row) != 0):
		t.Errorf("Row(%s) = %s, %d; want none", text(l), text(row), e)
	case can && (e != api.OK || !fits(row) || !slices.Equal(kinds(row), kinds(l))):
		t.Errorf("Row(%s) = %s, %d; want a row", text(l), text(row), e)
	}
}

// P5.1

func TestSet(t *testing.T) {
	for _, c := range []struct {
		most int
		want string
	}{
		{0, "00"},
		{1, "00 01 11"},
		{2, "00 01 02 11 12 22"},
		{3, "00 01 02 03 11 12 13 22 23 33"},
		{4, "00 01 02 03 04 11 12 13 14 22 23 24 33 34 44"},
	} {
		if l, e := domino.Set(c.most); text(l) != c.want || e != api.OK {
			t.Errorf("Set(%d) = %s, %d; want %s", c.most, text(l), e, c.want)
		}
	}
}

func TestSetsOfAll(t *testing.T) {
	for most := range 10 {
		l, e := domino.Set(most)
		if len(l) != (most+1)*(most+2)/2 || e != api.OK {
			t.Errorf("Set(%d) has %d pieces, %d", most, len(l), e)
		}
		for i, p := range l {
			if p[0] > p[1] || p[0] < 0 || p[1] > most {
				t.Errorf("Set(%d) has %v", most, p)
			}
			if i > 0 && slices.Compare(l[i-1][:], p[:]) >= 0 {
				t.Errorf("Set(%d) has %v ahead of %v", most, l[i-1], p)
			}
		}
	}
}

func TestSetRefuses(t *testing.T) {
	for _, most := range []int{-1, -2, 10, 11, 1 << 40, math.MinInt, math.MaxInt} {
		if l, e := domino.Set(most); len(l) != 0 || e != api.ErrRange {
			t.Errorf("Set(%d) = %v, %d; want %d", most, l, e, api.ErrRange)
		}
	}
}

// P5.2

func TestRow(t *testing.T) {
	for _, c := range []struct {
		l   string
		can bool
	}{
		{"", true},
		{"00", true},
		{"01", true},
		{"10", true},
		{"99", true},
		{"01 12", true},
		{"12 01", true},
		{"10 12", true}, // the first must be turned
		{"01 21", true}, // the last must be
		{"21 01", true},
		{"01 11 12", true},
		{"01 12 11", true}, // a double goes between
		{"01 23", false},
		{"00 11", false}, // each number is there an even number of times, but nothing joins them
		{"01 01 22", false},
		{"01 12 20 34 45 53", false},
		{"01 12 20 03 34 40", true}, // two rings that meet
		{"12 20 01 34 45 53 25", true},
		{"01 02 03", false}, // four odd ones
		{"01 02 03 11 22 33", false},
		{"01 02 03 12", true},
		{"01 01 01 01", true}, // alike
		{"01 10 01", true},
		{"33 33 33", true},
		{"01 01 12 12 20 20", true},
		{"01 02 03 04", false},
		{"01 02 03 04 12 34", true},
		{"01 02 03 04 12 33 44", true},
		{"01 02 03 04 05 12 33 44", false},
		{"89 90 08", true},
		{"89 90 08 79 69", true},
		{"89 90 08 79 68 99", false},
		{"89 90 08 79 68 99 67", true},
		{"89 90 08 79 69 59", false},
	} {
		laid(t, pieces(c.l), c.can)
		if plainEuler(pieces(c.l)) != c.can {
			t.Errorf("%s: the test is wrong", c.l)
		}
	}
}

func TestRowsOfSets(t *testing.T) {
	for most := range 10 {
		l, _ := domino.Set(most)
		can := most%2 == 0 || most == 1
		laid(t, l, can)
		slices.Reverse(l)
		laid(t, l, can)
	}
}

func TestRowOfMany(t *testing.T) {
	d := die(51)
	for range 2000 {
		l := d.draw(d.below(7), 1+d.below(5))
		laid(t, l, len(plainRows(l)) > 0)
	}
	for range 20000 {
		l := d.draw(d.below(30), 1+d.below(10))
		laid(t, l, plainEuler(l))
	}
	for range 20000 {
		l := d.mix(d.walk(d.below(61), 1+d.below(10)))
		laid(t, l, true)
	}
	for range 5000 { // two walks that may meet or not
		l := d.walk(1+d.below(30), 5)
		for _, p := range d.walk(1+d.below(30), 6) {
			l = append(l, [2]int{9 - p[0], 9 - p[1]})
		}
		l = d.mix(l)
		laid(t, l, plainEuler(l))
	}
}

func TestRowOfTheMost(t *testing.T) {
	for _, p := range []string{"00", "01", "99", "90"} {
		laid(t, slices.Repeat(pieces(p), 60), true)
		laid(t, slices.Repeat(pieces(p), 59), true)
		laid(t, slices.Concat(slices.Repeat(pieces(p), 59), pieces("45")), false)
	}
}

func TestRowRefuses(t *testing.T) {
	for _, c := range []struct {
		l    [][2]int
		want api.Errno
	}{
		{make([][2]int, 61), api.ErrSize},
		{make([][2]int, 100000), api.ErrSize},
		{slices.Repeat([][2]int{{-1, 10}}, 61), api.ErrSize},
		{slices.Repeat([][2]int{{-1, 10}}, 60), api.ErrRange},
		{[][2]int{{-1, 0}}, api.ErrRange},
		{[][2]int{{0, -1}}, api.ErrRange},
		{[][2]int{{10, 0}}, api.ErrRange},
		{[][2]int{{0, 10}}, api.ErrRange},
		{[][2]int{{10, 10}}, api.ErrRange},
		{[][2]int{{0, 0}, {0, math.MaxInt}}, api.ErrRange},
		{[][2]int{{0, 0}, {math.MinInt, 0}}, api.ErrRange},
		{[][2]int{{0, 1}, {2, 3}, {3, 10}}, api.ErrRange}, // ahead of that there is none
		{[][2]int{{0, 1}, {2, 3}}, api.ErrNone},
		{[][2]int{{0, 0}, {9, 9}}, api.ErrNone},
	} {
		if row, e := domino.Row(c.l); len(row) != 0 || e != c.want {
			t.Errorf("Row(%v) = %v, %d; want %d", c.l[:min(4, len(c.l))], row, e, c.want)
		}
	}
}

// P5.3

func TestRows(t *testing.T) {
	for _, c := range []struct {
		l    string
		want int
	}{
		{"", 1},
		{"00", 1},
		{"01", 2},
		{"90", 2},
		{"01 11 12", 2},
		{"01 12", 2},
		{"21 10", 2},
		{"01 23", 0}, // none is no fault here
		{"00 11", 0},
		{"01 02 03", 0},
		{"01 01", 2}, // 01 10, and 10 01
		{"01 10", 2},
		{"01 01 01", 2},
		{"00 00", 1}, // alike
		{"33 33 33 33 33 33 33", 1},
		{"01 10 01 10 01 10 01", 2},
		{"00 01", 2},
		{"00 01 11", 2},
		{"01 12 20", 6}, // a ring: three beginnings, two ways round
		{"01 12 23 30", 8},
		{"01 12 23 34 45 56 60", 14},
		{"00 01 12 20", 8}, // the double first or last, or within: four from 0, two from 1, two from 2
		{"00 00 01 10", 4},
		{"01 12 20 03 34 40", 24}, // eight from where the rings meet, four from each other number
	} {
		l := pieces(c.l)
		plain := len(plainRows(l))
		if n, e := domino.Rows(l); n != c.want || plain != c.want || e != api.OK {
			t.Errorf("Rows(%s) = %d, %d; want %d (plainly %d)", c.l, n, e, c.want, plain)
		}
	}
}

func TestRowsOfMany(t *testing.T) {
	d := die(53)
	for i := range 1500 {
		l := d.draw(d.below(8), 2+d.below(4))
		if i%2 == 0 {
			l = d.mix(d.walk(d.below(8), 2+d.below(9)))
		}
		want := len(plainRows(l))
		n, e := domino.Rows(l)
		if n != want || e != api.OK {
			t.Errorf("Rows(%s) = %d, %d; want %d", text(l), n, e, want)
		}
		if m, _ := domino.Rows(d.mix(l)); m != n {
			t.Errorf("Rows(%s) = %d, but %d in another order", text(l), n, m)
		}
		if _, e := domino.Row(l); (e == api.OK) != (n > 0) {
			t.Errorf("Row(%s) tells %d, Rows %d", text(l), e, n)
		}
	}
}

func TestRowsRefuses(t *testing.T) {
	for _, c := range []struct {
		l    [][2]int
		want api.Errno
	}{
		{make([][2]int, 8), api.ErrSize},
		{make([][2]int, 60), api.ErrSize},
		{make([][2]int, 100000), api.ErrSize},
		{slices.Repeat([][2]int{{-1, 10}}, 8), api.ErrSize},
		{slices.Repeat([][2]int{{-1, 10}}, 7), api.ErrRange},
		{[][2]int{{-1, 0}}, api.ErrRange},
		{[][2]int{{0, -1}}, api.ErrRange},
		{[][2]int{{10, 0}}, api.ErrRange},
		{[][2]int{{0, 10}}, api.ErrRange},
		{[][2]int{{0, 1}, {2, 3}, {3, math.MaxInt}}, api.ErrRange},
		{[][2]int{{0, 1}, {2, 3}, {math.MinInt, 3}}, api.ErrRange},
	} {
		if n, e := domino.Rows(c.l); n != 0 || e != c.want {
			t.Errorf("Rows(%v) = %d, %d; want %d", c.l[:min(4, len(c.l))], n, e, c.want)
		}
	}
}

// P5.4

func TestPlay(t *testing.T) {
	for _, c := range []struct {
		row, piece  string
		right, left string // what comes of it at either end; "-": it does not fit
	}{
		{"", "01", "01", "01"},
		{"", "10", "10", "10"}, // as it is
		{"", "99", "99", "99"},
		{"01", "12", "01 12", "-"},
		{"01", "21", "01 12", "-"},
		{"01", "20", "-", "20 01"},
		{"01", "02", "-", "20 01"},
		{"01", "01", "01 10", "10 01"},
		{"01", "10", "01 10", "10 01"},
		{"01", "11", "01 11", "-"},
		{"01", "00", "-", "00 01"},
		{"01", "23", "-", "-"},
		{"00", "00", "00 00", "00 00"},
		{"00", "05", "00 05", "50 00"},
		{"00", "50", "00 05", "50 00"},
		{"01 12 23", "34", "01 12 23 34", "-"},
		{"01 12 23", "43", "01 12 23 34", "-"},
		{"01 12 23", "40", "-", "40 01 12 23"},
		{"01 12 23", "04", "-", "40 01 12 23"},
		{"01 12 23", "30", "01 12 23 30", "30 01 12 23"},
		{"01 12 23", "03", "01 12 23 30", "30 01 12 23"},
		{"01 12 23", "12", "-", "-"}, // it fits within the row alone
		{"01 12 23", "45", "-", "-"},
		{"10 02 29", "91", "10 02 29 91", "91 10 02 29"},
	} {
		for _, right := range []bool{false, true} {
			want, fault := c.left, api.OK
			if right {
				want = c.right
			}
			if want == "-" {
				want, fault = "", api.ErrNone
			}
			row, e := domino.Play(pieces(c.row), pieces(c.piece)[0], right)
			if text(row) != want || e != fault {
				t.Errorf("Play(%s, %s, %v) = %s, %d; want %s, %d", c.row, c.piece, right, text(row), e, want, fault)
			}
		}
	}
}

// plainPlay looks at the one end that counts.
func plainPlay(row [][2]int, p [2]int, right bool) ([][2]int, api.Errno) {
	switch {
	case len(row) == 0:
		return [][2]int{p}, api.OK
	case right && p[0] == row[len(row)-1][1]:
		return append(slices.Clone(row), p), api.OK
	case right && p[1] == row[len(row)-1][1]:
		return append(slices.Clone(row), flip(p)), api.OK
	case !right && p[1] == row[0][0]:
		return append([][2]int{p}, row...), api.OK
	case !right && p[0] == row[0][0]:
		return append([][2]int{flip(p)}, row...), api.OK
	}
	return nil, api.ErrNone
}

func TestPlayOfMany(t *testing.T) {
	d := die(54)
	for range 3000 {
		var row [][2]int
		pips := 1 + d.below(10)
		for range 80 {
			p, right := [2]int{d.below(pips), d.below(pips)}, d.below(2) == 0
			want, fault := plainPlay(row, p, right)
			if len(row) == 60 {
				want, fault = nil, api.ErrSize
			}
			got, e := domino.Play(row, p, right)
			if !slices.Equal(got, want) || e != fault {
				t.Fatalf("Play(%s, %v, %v) = %s, %d; want %s, %d", text(row), p, right, text(got), e, text(want), fault)
			}
			if e == api.OK {
				row = got
			}
		}
		if !fits(row) {
			t.Errorf("Play made %s", text(row))
		}
		laid(t, row, true)
	}
}

func TestPlayRefuses(t *testing.T) {
	for _, c := range []struct {
		row   [][2]int
		piece [2]int
		want  api.Errno
	}{
		{make([][2]int, 60), [2]int{0, 0}, api.ErrSize},
		{make([][2]int, 61), [2]int{0, 0}, api.ErrSize},
		{make([][2]int, 100000), [2]int{0, 0}, api.ErrSize},
		{slices.Repeat([][2]int{{-1, 10}}, 60), [2]int{-1, 10}, api.ErrSize},
		{slices.Repeat([][2]int{{-1, 10}}, 59), [2]int{0, 0}, api.ErrRange},
		{nil, [2]int{-1, 0}, api.ErrRange},
		{nil, [2]int{0, -1}, api.ErrRange},
		{nil, [2]int{10, 0}, api.ErrRange},
		{nil, [2]int{0, 10}, api.ErrRange},
		{nil, [2]int{math.MinInt, math.MaxInt}, api.ErrRange},
		{[][2]int{{0, 10}}, [2]int{0, 0}, api.ErrRange},
		{[][2]int{{10, 0}}, [2]int{0, 0}, api.ErrRange},
		{[][2]int{{0, -1}}, [2]int{0, 0}, api.ErrRange},
		{[][2]int{{math.MinInt, 0}}, [2]int{0, 0}, api.ErrRange},
		{[][2]int{{0, 10}, {10, 0}}, [2]int{0, 0}, api.ErrRange},
		{[][2]int{{0, 1}, {2, 3}}, [2]int{3, 10}, api.ErrRange}, // ahead of the row's fault
		{[][2]int{{0, 1}, {2, 3}, {3, 10}}, [2]int{0, 0}, api.ErrRange},
		{[][2]int{{0, 1}, {2, 3}}, [2]int{3, 0}, api.ErrForm},
		{[][2]int{{0, 1}, {2, 3}}, [2]int{7, 7}, api.ErrForm}, // ahead of that it does not fit
		{[][2]int{{0, 1}, {2, 1}}, [2]int{0, 2}, api.ErrForm}, // what lies is not turned
		{[][2]int{{1, 0}, {1, 2}}, [2]int{1, 2}, api.ErrForm},
		{[][2]int{{0, 1}, {1, 2}, {2, 3}, {4, 3}}, [2]int{0, 3}, api.ErrForm},
		{[][2]int{{0, 1}, {1, 2}}, [2]int{1, 1}, api.ErrNone},
		{[][2]int{{0, 1}, {1, 2}}, [2]int{3, 4}, api.ErrNone},
	} {
		for _, right := range []bool{false, true} {
			if row, e := domino.Play(c.row, c.piece, right); len(row) != 0 || e != c.want {
				t.Errorf("Play(%v, %v, %v) = %v, %d; want %d", c.row[:min(4, len(c.row))], c.piece, right, row, e, c.want)
			}
		}
	}
	for _, right := range []bool{false, true} {
		if row, e := domino.Play(make([][2]int, 59), [2]int{0, 0}, right); len(row) != 60 || e != api.OK {
			t.Errorf("Play of 59 pieces and one more: %d pieces, %d", len(row), e)
		}
	}
}

// What holds everywhere

func TestWhatIsHandedInStays(t *testing.T) {
	for _, s := range []string{"", "00", "21", "10 01", "21 10 00", "01 12 20", "01 23", "90 08 87 76 65 54 43 32 21"} {
		before := pieces(s)
		l := roomy(before)
		domino.Row(l)
		untouched(t, "Row", l, before)
		domino.Rows(l)
		untouched(t, "Rows", l, before)
		for _, p := range pieces("00 01 12 19 91 34") {
			for _, right := range []bool{false, true} {
				domino.Play(l, p, right)
				untouched(t, "Play", l, before)
			}
		}
	}
}

func TestAnswersShareNothing(t *testing.T) {
	for _, ask := range []func(l [][2]int) [][2]int{
		func([][2]int) [][2]int { l, _ := domino.Set(3); return l },
		func(l [][2]int) [][2]int { r, _ := domino.Row(l); return r },
		func(l [][2]int) [][2]int { r, _ := domino.Play(l, [2]int{3, 0}, false); return r },
		func(l [][2]int) [][2]int { r, _ := domino.Play(l, [2]int{3, 0}, true); return r },
		func([][2]int) [][2]int { r, _ := domino.Play(nil, [2]int{3, 0}, true); return r },
	} {
		before := pieces("01 12 23")
		l := roomy(before)
		first := ask(l)
		kept := slices.Clone(first)
		second := ask(l)
		scribble(second)
		untouched(t, "an answer", l, before)
		if len(kept) == 0 || !slices.Equal(first, kept) {
			t.Errorf("two answers share memory: %v, was %v", first, kept)
		}
		scribble(l)
		if !slices.Equal(first, kept) {
			t.Errorf("an answer shares memory with what was handed in: %v, was %v", first, kept)
		}
		if again := ask(roomy(before)); !slices.Equal(again, kept) {
			t.Errorf("not the same again: %v, was %v", again, kept)
		}
	}
}
