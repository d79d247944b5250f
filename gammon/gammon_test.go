package gammon_test

import (
	"fmt"
	"math"
	"math/big"
	"slices"
	"testing"

	"gameroom/api"
	"gameroom/gammon"
)

const spare = -77

// roomy gives a list with spare room, so that a call that writes behind its end is found out.
func roomy(l []int) []int {
	r := make([]int, len(l)+8)
	copy(r, l)
	for i := len(l); i < len(r); i++ {
		r[i] = spare
	}
	return r[:len(l)]
}

func untouched(t *testing.T, what string, l, before []int) {
	t.Helper()
	if !slices.Equal(l, before) {
		t.Errorf("%s changed what was handed in: %v, was %v", what, l, before)
	}
	for _, x := range l[len(l):cap(l)] {
		if x != spare {
			t.Errorf("%s wrote into the spare room of what was handed in", what)
			return
		}
	}
}

// scribble overwrites a list and its spare room.
func scribble(l []int) {
	l = l[:cap(l)]
	for i := range l {
		l[i] = spare
	}
}

// die gives numbers that look drawn, the same each time.
type die uint64

func (d *die) below(n int) int {
	*d = *d*6364136223846793005 + 1442695040888963407
	return int(uint64(*d>>33) % uint64(n))
}

// at lays men on points: white ones above 0, black ones below.
func at(men map[int]int) []int {
	l := make([]int, 26)
	for point, n := range men {
		l[point] = n
	}
	return l
}

func white(men map[int]int) api.Gammon { return api.Gammon{Points: at(men), Turn: api.White} }

// barred: the same board with men on the bar.
func barred(b api.Gammon, white, black int) api.Gammon {
	b.White, b.Black = white, black
	return b
}

func start() api.Gammon {
	return white(map[int]int{24: 2, 13: 5, 8: 3, 6: 5, 1: -2, 12: -5, 17: -3, 19: -5})
}

func clone(b api.Gammon) api.Gammon {
	b.Points = slices.Clone(b.Points)
	return b
}

// mirrored: the same board with the sides changed.
func mirrored(b api.Gammon) api.Gammon {
	l := slices.Clone(b.Points)
	slices.Reverse(l)
	for i := range l {
		l[i] = -l[i]
	}
	return api.Gammon{Points: l, White: b.Black, Black: b.White, Turn: 1 - b.Turn}
}

// numbers of a board in the order by which boards are compared.
func numbers(b api.Gammon) []int {
	return append(slices.Clone(b.Points[1:25]), b.White, b.Black)
}

func sorted(l []api.Gammon) []api.Gammon {
	slices.SortFunc(l, func(a, b api.Gammon) int { return slices.Compare(numbers(a), numbers(b)) })
	return l
}

func text(l ...api.Gammon) string { return fmt.Sprint(l) }

// men of a side, on points and bar.
func men(b api.Gammon, turn int) int {
	n := b.White
	if turn == api.Black {
		n = b.Black
	}
	for _, x := range b.Points {
		if turn == api.White {
			n += max(x, 0)
		} else {
			n += max(-x, 0)
		}
	}
	return n
}

// drawn gives boards of many kinds: few men and many, walls, men at home, men on the bar.
func (d *die) drawn() api.Gammon {
	b := api.Gammon{Points: make([]int, 26), Turn: d.below(2)}
	low, high := [2]int{1, 1}, [2]int{24, 24}
	for turn := range 2 {
		if d.below(3) == 0 {
			low[turn], high[turn] = 1+18*turn, 6+18*turn
		}
	}
	for turn, sign := range []int{1, -1} {
		left := d.below(16)
		if d.below(3) == 0 {
			left = min(left, d.below(4))
		}
		if left > 0 && d.below(3) == 0 {
			bar := 1 + d.below(min(left, 3))
			left -= bar
			if turn == api.White {
				b.White = bar
			} else {
				b.Black = bar
			}
		}
		for range 60 {
			n := min(left, 1+d.below(3))
			if p := low[turn] + d.below(high[turn]-low[turn]+1); n > 0 && b.Points[p]*sign >= 0 {
				b.Points[p] += n * sign
				left -= n
			}
		}
	}
	return b
}

// P7.1

func TestMay(t *testing.T) {
	full := func(point, n int) api.Gammon { return white(map[int]int{point: n}) }
	for _, c := range []struct {
		what string
		b    api.Gammon
		want bool
	}{
		{"the beginning", start(), true},
		{"no man at all", white(nil), true},
		{"black is to move", api.Gammon{Points: at(nil), Turn: api.Black}, true},
		{"turn 2", api.Gammon{Points: at(nil), Turn: 2}, false},
		{"turn -1", api.Gammon{Points: at(nil), Turn: -1}, false},
		{"the greatest turn", api.Gammon{Points: at(nil), Turn: math.MaxInt}, false},
		{"the least turn", api.Gammon{Points: at(nil), Turn: math.MinInt}, false},
		{"no points", api.Gammon{}, false},
		{"24 points", api.Gammon{Points: make([]int, 24)}, false},
		{"25 points", api.Gammon{Points: make([]int, 25)}, false},
		{"27 points", api.Gammon{Points: make([]int, 27)}, false},
		{"very many points", api.Gammon{Points: make([]int, 1<<20)}, false},
		{"a white man at 0", full(0, 1), false},
		{"a black man at 0", full(0, -1), false},
		{"a white man at 25", full(25, 1), false},
		{"a black man at 25", full(25, -1), false},
		{"15 white ones", full(1, 15), true},
		{"16 white ones", full(1, 16), false},
		{"15 black ones", full(24, -15), true},
		{"16 black ones", full(24, -16), false},
		{"15 of each", white(map[int]int{1: 15, 24: -15}), true},
		{"15 of each, in parts", barred(white(map[int]int{1: 7, 9: 7, 2: -7, 24: -7}), 1, 1), true},
		{"16 white ones in parts", white(map[int]int{1: 8, 24: 8}), false},
		{"16 black ones in parts", white(map[int]int{1: -8, 24: -8}), false},
		{"16 of which black ones are less", white(map[int]int{1: 16, 2: -1}), false},
		{"15 on the bars", barred(white(nil), 15, 15), true},
		{"16 on white's bar", barred(white(nil), 16, 0), false},
		{"16 on black's bar", barred(white(nil), 0, 16), false},
		{"16 white ones with the bar", barred(full(5, 15), 1, 0), false},
		{"16 black ones with the bar", barred(full(5, -15), 0, 1), false},
		{"15 white ones and a black one on the bar", barred(full(5, 15), 0, 1), true},
		{"15 black ones and a white one on the bar", barred(full(5, -15), 1, 0), true},
		{"white's bar below 0", barred(white(nil), -1, 0), false},
		{"black's bar below 0", barred(white(nil), 0, -1), false},
		{"white's bar below 0, with 16 others", barred(full(1, 16), -1, 0), false},
		{"black's bar below 0, with 16 others", barred(full(1, -16), 0, -1), false},
		{"the least bars", barred(white(nil), math.MinInt, math.MinInt), false},
		{"the greatest bars", barred(white(nil), math.MaxInt, math.MaxInt), false},
		{"the greatest number", full(1, math.MaxInt), false},
		{"the least number", full(1, math.MinInt), false},
		{"the least number but one", full(1, math.MinInt+1), false},
		{"white ones whose sum wraps round to 0", white(map[int]int{1: math.MaxInt, 2: math.MaxInt, 3: 2}), false},
		{"black ones whose sum wraps round to 0", white(map[int]int{1: math.MinInt, 2: math.MinInt}), false},
		{"a bar that wraps round to -1", barred(full(1, math.MaxInt), math.MaxInt, 0), false},
		{"a bar that wraps round to 0", barred(full(1, -math.MaxInt), 0, math.MaxInt), false},
	} {
		if got := gammon.May(c.b); got != c.want {
			t.Errorf("%s: May answers %v", c.what, got)
		}
		if c.b.Turn < -1 || len(c.b.Points) != 26 {
			continue
		}
		if got := gammon.May(mirrored(c.b)); got != c.want {
			t.Errorf("%s, with the sides changed: May answers %v", c.what, got)
		}
	}
}

func TestMayOfMany(t *testing.T) {
	d := die(71)
	for range 3000 {
		b := d.drawn()
		if !gammon.May(b) {
			t.Errorf("May(%v) is false", b)
		}
		for range d.below(8) {
			b.Points[1+d.below(24)] += d.below(9) - 4
		}
		if got, want := gammon.May(b), men(b, api.White) <= 15 && men(b, api.Black) <= 15; got != want {
			t.Errorf("May(%v) is %v", b, got)
		}
	}
}

// P7.2

func TestStep(t *testing.T) {
	for _, c := range []struct {
		what       string
		b          api.Gammon
		from, pips int
		want       api.Gammon // no points: it may not be so
	}{
		{"a man moves", white(map[int]int{24: 2}), 24, 5, white(map[int]int{24: 1, 19: 1})},
		{"the last man moves away", white(map[int]int{24: 1}), 24, 6, white(map[int]int{18: 1})},
		{"to his own", white(map[int]int{13: 1, 8: 3}), 13, 5, white(map[int]int{8: 4})},
		{"nobody is there", white(map[int]int{24: 2}), 23, 5, api.Gammon{}},
		{"the others are there", white(map[int]int{24: 2, 10: -1}), 10, 5, api.Gammon{}},
		{"a man alone is hit", white(map[int]int{10: 2, 8: -1}), 10, 2, barred(white(map[int]int{10: 1, 8: 1}), 0, 1)},
		{"one more is hit", barred(white(map[int]int{10: 2, 8: -1, 3: -2}), 0, 3), 10, 2, barred(white(map[int]int{10: 1, 8: 1, 3: -2}), 0, 4)},
		{"two are in the way", white(map[int]int{10: 2, 8: -2}), 10, 2, api.Gammon{}},
		{"many are in the way", white(map[int]int{10: 2, 8: -15}), 10, 2, api.Gammon{}},
		{"what is passed over stays", white(map[int]int{10: 2, 9: -5, 8: -1}), 10, 3, white(map[int]int{10: 1, 7: 1, 9: -5, 8: -1})},
		{"a man enters by 1", barred(white(nil), 1, 0), 0, 1, white(map[int]int{24: 1})},
		{"a man enters by 6", barred(white(nil), 1, 0), 0, 6, white(map[int]int{19: 1})},
		{"one of many enters", barred(white(map[int]int{20: 2}), 3, 1), 0, 5, barred(white(map[int]int{20: 3}), 2, 1)},
		{"a man enters and hits", barred(white(map[int]int{22: -1}), 1, 0), 0, 3, barred(white(map[int]int{22: 1}), 0, 1)},
		{"a man cannot enter", barred(white(map[int]int{22: -2}), 1, 0), 0, 3, api.Gammon{}},
		{"nobody is on the bar", white(map[int]int{20: 1}), 0, 3, api.Gammon{}},
		{"just the others are on the bar", barred(white(map[int]int{20: 1}), 0, 2), 0, 3, api.Gammon{}},
		{"one on the bar holds the others", barred(white(map[int]int{20: 1}), 1, 0), 20, 3, api.Gammon{}},
		{"the others' bar holds nobody", barred(white(map[int]int{20: 1}), 0, 1), 20, 3, barred(white(map[int]int{17: 1}), 0, 1)},
		{"off from 6 by 6", white(map[int]int{6: 1}), 6, 6, white(nil)},
		{"off from 1 by 1", white(map[int]int{1: 2, 6: 5}), 1, 1, white(map[int]int{1: 1, 6: 5})},
		{"off from 3 by 3, with men farther", white(map[int]int{3: 2, 6: 5}), 3, 3, white(map[int]int{3: 1, 6: 5})},
		{"off from 1 by 6, alone", white(map[int]int{1: 1}), 1, 6, white(nil)},
		{"off from 4 by 6, farthest", white(map[int]int{4: 2, 1: 3}), 4, 6, white(map[int]int{4: 1, 1: 3})},
		{"off from 4 by 5, one is farther", white(map[int]int{4: 2, 5: 1}), 4, 5, api.Gammon{}},
		{"off from 4 by 6, one is farther", white(map[int]int{4: 2, 5: 1}), 4, 6, api.Gammon{}},
		{"off from 1 by 2, one is farther", white(map[int]int{1: 2, 2: 1}), 1, 2, api.Gammon{}},
		{"off by just so much, one is at 7", white(map[int]int{4: 2, 7: 1}), 4, 4, api.Gammon{}},
		{"off by more, one is at 7", white(map[int]int{4: 2, 7: 1}), 4, 6, api.Gammon{}},
		{"off, one is at 24", white(map[int]int{4: 2, 24: 1}), 4, 4, api.Gammon{}},
		{"off, one is on the bar", barred(white(map[int]int{4: 2}), 1, 0), 4, 4, api.Gammon{}},
		{"off, others stand everywhere", barred(white(map[int]int{4: 1, 5: -3, 6: -3, 24: -3}), 0, 4), 4, 6, barred(white(map[int]int{5: -3, 6: -3, 24: -3}), 0, 4)},
		{"not off, with a man at 7: within home", white(map[int]int{4: 1, 7: 1}), 4, 3, white(map[int]int{1: 1, 7: 1})},
		{"from 7 by 6 to the last point", white(map[int]int{7: 1}), 7, 6, white(map[int]int{1: 1})},
		{"the last point is the others'", white(map[int]int{7: 1, 1: -2}), 7, 6, api.Gammon{}},
		{"no men", white(nil), 3, 6, api.Gammon{}},
	} {
		fault := api.OK
		if c.want.Points == nil {
			fault = api.ErrRule
		}
		if got, e := gammon.Step(c.b, c.from, c.pips); text(got) != text(c.want) || e != fault {
			t.Errorf("%s: %v, %d; want %v, %d", c.what, got, e, c.want, fault)
		}
		from, want := (25-c.from)%25, c.want
		if fault == api.OK {
			want = mirrored(want)
		}
		if got, e := gammon.Step(mirrored(c.b), from, c.pips); text(got) != text(want) || e != fault {
			t.Errorf("%s, with the sides changed: %v, %d; want %v, %d", c.what, got, e, want, fault)
		}
	}
}

func TestStepOfBlack(t *testing.T) {
	b := api.Gammon{Points: at(map[int]int{6: 1, 19: -1}), Black: 1, Turn: api.Black}
	b, e := gammon.Step(b, 0, 6)
	if want := (api.Gammon{Points: at(map[int]int{6: -1, 19: -1}), White: 1, Turn: api.Black}); text(b) != text(want) || e != api.OK {
		t.Fatalf("black enters and hits: %v, %d; want %v", b, e, want)
	}
	for _, run := range [][2]int{{6, 5}, {11, 6}, {17, 2}} {
		b, e = gammon.Step(b, run[0], run[1])
		if e != api.OK {
			t.Fatalf("black runs from %d by %d: %d", run[0], run[1], e)
		}
	}
	if want := (api.Gammon{Points: at(map[int]int{19: -2}), White: 1, Turn: api.Black}); text(b) != text(want) {
		t.Fatalf("black is home: %v; want %v", b, want)
	}
	b, e = gammon.Step(b, 19, 6)
	if want := (api.Gammon{Points: at(map[int]int{19: -1}), White: 1, Turn: api.Black}); text(b) != text(want) || e != api.OK {
		t.Fatalf("black goes off: %v, %d; want %v", b, e, want)
	}
}

func TestStepRefuses(t *testing.T) {
	may, not := white(map[int]int{24: 2}), white(map[int]int{24: 16})
	for _, c := range []struct {
		b          api.Gammon
		from, pips int
		want       api.Errno
	}{
		{api.Gammon{}, 24, 1, api.ErrState},
		{not, 24, 1, api.ErrState},
		{not, 25, 0, api.ErrState},
		{api.Gammon{Points: at(nil), Turn: 2}, -1, 7, api.ErrState},
		{may, -1, 1, api.ErrRange},
		{may, 25, 1, api.ErrRange},
		{may, 26, 1, api.ErrRange},
		{may, math.MinInt, 1, api.ErrRange},
		{may, math.MaxInt, 1, api.ErrRange},
		{may, 24, 0, api.ErrRange},
		{may, 24, -1, api.ErrRange},
		{may, 24, 7, api.ErrRange},
		{may, 24, math.MinInt, api.ErrRange},
		{may, 24, math.MaxInt, api.ErrRange},
		{may, 5, 7, api.ErrRange}, // ahead of that nobody is there
		{barred(may, 1, 0), 24, 0, api.ErrRange},
		{may, 0, 1, api.ErrRule},
		{may, 5, 1, api.ErrRule},
		{may, 1, 6, api.ErrRule},
	} {
		if got, e := gammon.Step(c.b, c.from, c.pips); text(got) != text(api.Gammon{}) || e != c.want {
			t.Errorf("Step(%v, %d, %d) = %v, %d; want %d", c.b, c.from, c.pips, got, e, c.want)
		}
	}
}

// plainStep goes by the chapter's words, for either side with its own points.
func plainStep(b api.Gammon, from, pips int) (api.Gammon, bool) {
	b = clone(b)
	own, others, sign := &b.White, &b.Black, 1
	if b.Turn == api.Black {
		own, others, sign = &b.Black, &b.White, -1
	}
	to := from - sign*pips
	if from == 0 {
		if *own == 0 {
			return b, false
		}
		*own--
		to = pips
		if b.Turn == api.White {
			to = 25 - pips
		}
	} else {
		if *own > 0 || b.Points[from]*sign <= 0 {
			return b, false
		}
		b.Points[from] -= sign
	}
	if to < 1 || to > 24 {
		for p := 1; p <= 24; p++ {
			away := p
			if b.Turn == api.Black {
				away = 25 - p
			}
			if b.Points[p]*sign > 0 && (away > 6 || to != 0 && to != 25 && (p-from)*sign > 0) {
				return b, false
			}
		}
		return b, true
	}
	switch {
	case b.Points[to]*sign < -1:
		return b, false
	case b.Points[to]*sign == -1:
		b.Points[to] = 0
		*others++
	}
	b.Points[to] += sign
	return b, true
}

func TestStepOfMany(t *testing.T) {
	d := die(72)
	for range 3000 {
		b := d.drawn()
		for from := range 25 {
			for pips := 1; pips <= 6; pips++ {
				want, fault := api.Gammon{}, api.ErrRule
				if after, ok := plainStep(b, from, pips); ok {
					want, fault = after, api.OK
				}
				got, e := gammon.Step(b, from, pips)
				if text(got) != text(want) || e != fault {
					t.Fatalf("Step(%v, %d, %d) = %v, %d; want %v, %d", b, from, pips, got, e, want, fault)
				}
			}
		}
	}
}

// P7.3

func TestMoves(t *testing.T) {
	wall := map[int]int{}
	for p := 1; p <= 18; p += 3 {
		wall[p] = -2
	}
	for _, c := range []struct {
		what string
		b    api.Gammon
		x, y int
		want []api.Gammon
	}{
		{"one man, both dice", white(map[int]int{20: 1}), 3, 1, []api.Gammon{white(map[int]int{16: 1})}},
		{"just the greater one, though either could be", white(map[int]int{20: 1, 16: -2}), 1, 3,
			[]api.Gammon{white(map[int]int{17: 1, 16: -2})}},
		{"just the lesser one can be", white(map[int]int{20: 1, 16: -2, 17: -2}), 1, 3,
			[]api.Gammon{white(map[int]int{19: 1, 16: -2, 17: -2})}},
		{"just the greater one can be", white(map[int]int{20: 1, 16: -2, 19: -2}), 1, 3,
			[]api.Gammon{white(map[int]int{17: 1, 16: -2, 19: -2})}},
		{"none can be", white(map[int]int{20: 1, 17: -2, 19: -2}), 1, 3,
			[]api.Gammon{white(map[int]int{20: 1, 17: -2, 19: -2})}},
		{"in one order alone, the lesser first", white(map[int]int{20: 1, 17: -2}), 1, 3,
			[]api.Gammon{white(map[int]int{16: 1, 17: -2})}},
		{"in one order alone, the greater first", white(map[int]int{20: 1, 19: -2}), 1, 3,
			[]api.Gammon{white(map[int]int{16: 1, 19: -2})}},
		{"a man hit on the way, or passed by", white(map[int]int{20: 1, 17: -1}), 1, 3,
			[]api.Gammon{white(map[int]int{16: 1, 17: -1}), barred(white(map[int]int{16: 1}), 0, 1)}},
		{"two men", white(map[int]int{20: 1, 10: 1}), 1, 3, []api.Gammon{
			white(map[int]int{20: 1, 6: 1}), white(map[int]int{19: 1, 7: 1}), white(map[int]int{17: 1, 9: 1}), white(map[int]int{16: 1, 10: 1})}},
		{"two steps must be made, if they can be", white(map[int]int{20: 1, 10: 1, 19: -2, 9: -2, 6: -2, 7: -2}), 1, 3,
			[]api.Gammon{white(map[int]int{16: 1, 10: 1, 19: -2, 9: -2, 6: -2, 7: -2})}},
		{"four of alike ones", white(map[int]int{20: 1}), 2, 2, []api.Gammon{white(map[int]int{12: 1})}},
		{"three of alike ones", white(map[int]int{20: 1, 12: -2}), 2, 2, []api.Gammon{white(map[int]int{14: 1, 12: -2})}},
		{"two of alike ones", white(map[int]int{20: 1, 14: -2}), 2, 2, []api.Gammon{white(map[int]int{16: 1, 14: -2})}},
		{"one of alike ones", white(map[int]int{20: 1, 16: -2}), 2, 2, []api.Gammon{white(map[int]int{18: 1, 16: -2})}},
		{"none of alike ones", white(map[int]int{20: 1, 18: -2}), 2, 2, []api.Gammon{white(map[int]int{20: 1, 18: -2})}},
		{"one man stops, the other goes on", white(map[int]int{20: 1, 18: 1, 16: -2}), 2, 2, []api.Gammon{white(map[int]int{18: 2, 16: -2})}},
		{"two enter", barred(white(nil), 2, 0), 1, 6, []api.Gammon{white(map[int]int{24: 1, 19: 1})}},
		{"one of two enters, the lesser", barred(white(map[int]int{10: 1, 19: -2}), 2, 0), 1, 6,
			[]api.Gammon{barred(white(map[int]int{10: 1, 24: 1, 19: -2}), 1, 0)}},
		{"one enters, and all may go on", barred(white(map[int]int{10: 1, 19: -2}), 1, 0), 1, 6, []api.Gammon{
			white(map[int]int{24: 1, 4: 1, 19: -2}), white(map[int]int{18: 1, 10: 1, 19: -2})}},
		{"nobody enters", barred(white(map[int]int{10: 1, 19: -2, 24: -2}), 1, 0), 1, 6,
			[]api.Gammon{barred(white(map[int]int{10: 1, 19: -2, 24: -2}), 1, 0)}},
		{"five enter by four", barred(white(nil), 5, 0), 3, 3, []api.Gammon{barred(white(map[int]int{22: 4}), 1, 0)}},
		{"two go off", white(map[int]int{3: 1, 2: 2}), 6, 5, []api.Gammon{white(map[int]int{2: 1})}},
		{"off by just so much, or by more behind the other step", white(map[int]int{3: 1, 2: 2}), 3, 1,
			[]api.Gammon{white(map[int]int{2: 1, 1: 1}), white(map[int]int{2: 2})}},
		{"the last one comes home, then one goes off", white(map[int]int{7: 1, 4: 1}), 4, 1, []api.Gammon{
			white(map[int]int{6: 1}), white(map[int]int{4: 1, 2: 1}), white(map[int]int{3: 2})}},
		{"the last man goes off by the first step", white(map[int]int{3: 1}), 6, 5, []api.Gammon{white(nil)}},
		{"the last man goes off by alike ones", white(map[int]int{3: 1}), 2, 2, []api.Gammon{white(nil)}},
		{"no men", white(nil), 6, 5, []api.Gammon{white(nil)}},
		{"no men, alike ones", barred(white(wall), 0, 3), 5, 5, []api.Gammon{barred(white(wall), 0, 3)}},
	} {
		var want, changed []api.Gammon
		for _, b := range c.want {
			b.Turn = api.Black
			want = append(want, b)
			changed = append(changed, mirrored(b))
		}
		sorted(want)
		sorted(changed)
		for _, throw := range [][2]int{{c.x, c.y}, {c.y, c.x}} {
			if got, e := gammon.Moves(c.b, throw[0], throw[1]); text(got...) != text(want...) || e != api.OK {
				t.Errorf("%s: %v, %d; want %v", c.what, got, e, want)
			}
			if got, e := gammon.Moves(mirrored(c.b), throw[0], throw[1]); text(got...) != text(changed...) || e != api.OK {
				t.Errorf("%s, with the sides changed: %v, %d; want %v", c.what, got, e, changed)
			}
		}
	}
}

// The order is that of numbers, not of signs: -10 is ahead of -9, 10 behind 9.
func TestMovesInOrder(t *testing.T) {
	b := api.Gammon{Points: at(map[int]int{1: -10, 12: -1, 20: 4}), Turn: api.Black}
	l, e := gammon.Moves(b, 1, 2)
	var got []string
	for _, b := range l {
		got = append(got, fmt.Sprint(b.Points[1:5], b.Points[12:16]))
	}
	want := []string{
		"[-10 0 0 0] [0 0 0 -1]",
		"[-9 -1 0 0] [0 0 -1 0]",
		"[-9 0 -1 0] [0 -1 0 0]",
		"[-9 0 0 -1] [-1 0 0 0]",
		"[-8 -1 -1 0] [-1 0 0 0]",
	}
	if !slices.Equal(got, want) || e != api.OK {
		t.Errorf("Moves answers %v, %d; want %v", got, e, want)
	}
}

func TestMovesOfTheBeginning(t *testing.T) {
	for x := 1; x <= 6; x++ {
		for y := 1; y <= 6; y++ {
			l, e := gammon.Moves(start(), x, y)
			if want := plainMoves(start(), x, y); text(l...) != text(want...) || e != api.OK {
				t.Errorf("Moves of the beginning, %d %d: %v, %d; want %v", x, y, l, e, want)
			}
		}
	}
	// By 5 men move from 13 to 8 and from 8 to 3 alone (19 and 1 are the others'), the first from once to four times: just three stand at 8.
	if l, e := gammon.Moves(start(), 5, 5); len(l) != 4 || e != api.OK {
		t.Errorf("Moves of the beginning, 5 5: %d boards, %d", len(l), e)
	}
}

// plainMoves tries all steps with all dice that are left, and keeps the boards of the longest rows of steps.
func plainMoves(b api.Gammon, x, y int) []api.Gammon {
	dice := []int{x, y}
	if x == y {
		dice = []int{x, x, x, x}
	}
	most, boards := -1, map[string]api.Gammon{}
	var try func(b api.Gammon, left []int, made int)
	try = func(b api.Gammon, left []int, made int) {
		// One step is worth more by the greater die.
		worth := 100 * made
		if made == 1 && x != y {
			worth += 10 - left[0]
		}
		if worth > most {
			most = worth
			clear(boards)
		}
		if worth == most {
			b := clone(b)
			b.Turn = 1 - b.Turn
			boards[fmt.Sprint(b)] = b
		}
		for i, pips := range left {
			if i > 0 && left[i-1] == pips {
				continue
			}
			for from := range 25 {
				if next, ok := plainStep(b, from, pips); ok {
					try(next, slices.Delete(slices.Clone(left), i, i+1), made+1)
				}
			}
		}
	}
	try(b, dice, 0)
	var l []api.Gammon
	for _, b := range boards {
		l = append(l, b)
	}
	return sorted(l)
}

func TestMovesOfMany(t *testing.T) {
	d := die(73)
	seen := map[int]int{}
	for i := range 1500 {
		b := d.drawn()
		x, y := 1+d.below(6), 1+d.below(6)
		if i%15 == 0 {
			y = x
		} else if x == y {
			y = 1 + x%6
		}
		got, e := gammon.Moves(b, x, y)
		want := plainMoves(b, x, y)
		if text(got...) != text(want...) || e != api.OK {
			t.Fatalf("Moves(%v, %d, %d) = %v, %d; want %v", b, x, y, got, e, want)
		}
		seen[min(len(got), 3)]++
	}
	if seen[0] > 0 || seen[1] < 50 || seen[2] < 50 || seen[3] < 50 {
		t.Errorf("the boards of this test are of one kind: %v", seen)
	}
}

func TestMovesKeepMen(t *testing.T) {
	d := die(74)
	for range 1000 {
		b := d.drawn()
		x, y := 1+d.below(6), 1+d.below(6)
		l, _ := gammon.Moves(b, x, y)
		if m, _ := gammon.Moves(b, y, x); text(l...) != text(m...) {
			t.Errorf("Moves(%v, %d, %d) is not the same the other way round", b, x, y)
		}
		for i, a := range l {
			if i > 0 && slices.Compare(numbers(l[i-1]), numbers(a)) >= 0 {
				t.Errorf("Moves(%v, %d, %d) has %v ahead of %v", b, x, y, l[i-1], a)
			}
			if !gammon.May(a) || a.Turn != 1-b.Turn {
				t.Errorf("Moves(%v, %d, %d) has %v", b, x, y, a)
			}
			off := men(b, b.Turn) - men(a, b.Turn)
			if off < 0 || off > 4 || men(a, a.Turn) != men(b, a.Turn) {
				t.Errorf("Moves(%v, %d, %d) has lost or won men: %v", b, x, y, a)
			}
		}
	}
}

func TestMovesRefuses(t *testing.T) {
	may, not := start(), white(map[int]int{24: 16})
	for _, c := range []struct {
		b    api.Gammon
		x, y int
		want api.Errno
	}{
		{api.Gammon{}, 1, 2, api.ErrState},
		{not, 1, 2, api.ErrState},
		{not, 0, 7, api.ErrState},
		{barred(may, 0, -1), 1, 1, api.ErrState},
		{may, 0, 1, api.ErrRange},
		{may, 1, 0, api.ErrRange},
		{may, 7, 1, api.ErrRange},
		{may, 1, 7, api.ErrRange},
		{may, 0, 0, api.ErrRange},
		{may, 7, 7, api.ErrRange},
		{may, -1, -1, api.ErrRange},
		{may, math.MaxInt, 1, api.ErrRange},
		{may, 1, math.MinInt, api.ErrRange},
		{white(nil), 6, 7, api.ErrRange}, // though no step can be made
	} {
		if got, e := gammon.Moves(c.b, c.x, c.y); len(got) != 0 || e != c.want {
			t.Errorf("Moves(%v, %d, %d) = %v, %d; want %d", c.b, c.x, c.y, got, e, c.want)
		}
	}
}

// P7.4

func TestRolls(t *testing.T) {
	for _, c := range []struct {
		men       []int
		over, all int
	}{
		{nil, 0, 1},
		{[]int{}, 0, 1},
		{[]int{0}, 0, 1},
		{[]int{0, 0, 0, 0, 0, 0}, 0, 1},
		{[]int{1}, 1, 1},
		{[]int{1, 0, 0}, 1, 1},
		{[]int{0, 1}, 1, 1},
		{[]int{0, 0, 1}, 1, 1},
		{[]int{0, 0, 0, 1}, 19, 18},       // but by 1 2
		{[]int{0, 0, 0, 0, 1}, 41, 36},    // but by 1 1, 1 2, 1 3
		{[]int{0, 0, 0, 0, 0, 1}, 5, 4},   // in 27 of 36
		{[]int{2}, 1, 1},                  // both go off by any throw
		{[]int{1, 1}, 1, 1},               // by 1 x, too: one at 1, the other one by x
		{[]int{1, 0, 1}, 19, 18},          // but by 1 2
		{[]int{0, 2}, 23, 18},             // but by 1 with anything else than 1
		{[]int{3}, 11, 6},                 // at once by alike ones alone
		{[]int{2, 1, 0, 0, 0, 0}, 11, 6},  // so, too: 1 1 takes all three
		{[]int{1, 2, 0, 0, 0, 0}, 67, 36}, // 1 1 takes two of them and leaves a step
	} {
		if over, all, e := gammon.Rolls(c.men); over != c.over || all != c.all || e != api.OK {
			t.Errorf("Rolls(%v) = %d/%d, %d; want %d/%d", c.men, over, all, e, c.over, c.all)
		}
	}
}

// plainRolls leaves it open whether a die is used, and counts by fractions of any size.
func plainRolls(known map[[6]int]*big.Rat, men [6]int) *big.Rat {
	if men == [6]int{} {
		return new(big.Rat)
	}
	if r := known[men]; r != nil {
		return r
	}
	sum := new(big.Rat)
	for x := 1; x <= 6; x++ {
		for y := 1; y <= 6; y++ {
			dice := []int{x, y}
			if x == y {
				dice = []int{x, x, x, x}
			}
			var best *big.Rat
			for next := range plainLeft(men, dice) {
				if next == men {
					continue
				}
				if r := plainRolls(known, next); best == nil || r.Cmp(best) < 0 {
					best = r
				}
			}
			sum.Add(sum, best)
		}
	}
	known[men] = sum.Add(big.NewRat(1, 1), sum.Mul(sum, big.NewRat(1, 36)))
	return known[men]
}

func plainLeft(men [6]int, dice []int) map[[6]int]bool {
	all := map[[6]int]bool{men: true}
	for d, pips := range dice {
		rest := slices.Delete(slices.Clone(dice), d, d+1)
		for i, n := range men {
			next := men
			next[i]--
			if i >= pips {
				next[i-pips]++
			}
			if n == 0 || i+1 < pips && slices.Max(append(men[i+1:], 0)) > 0 {
				continue
			}
			for l := range plainLeft(next, rest) {
				all[l] = true
			}
		}
	}
	return all
}

func TestRollsOfAll(t *testing.T) {
	known := map[[6]int]*big.Rat{}
	lists := 0
	for code := range 4 * 4 * 4 * 4 * 4 * 4 {
		var men [6]int
		sum := 0
		for i := range men {
			men[i] = code >> (2 * i) & 3
			sum += men[i]
		}
		over, all, e := gammon.Rolls(men[:])
		if sum > 3 {
			if over != 0 || all != 0 || e != api.ErrCount {
				t.Errorf("Rolls(%v) = %d/%d, %d; want %d", men, over, all, e, api.ErrCount)
			}
			continue
		}
		lists++
		want := plainRolls(known, men)
		if want.Num().Cmp(big.NewInt(int64(over))) != 0 || want.Denom().Cmp(big.NewInt(int64(all))) != 0 || e != api.OK {
			t.Errorf("Rolls(%v) = %d/%d, %d; want %v", men, over, all, e, want)
		}
		// Numbers of points where nobody stands may be left out.
		short := men[:]
		for len(short) > 0 && short[len(short)-1] == 0 {
			short = short[:len(short)-1]
		}
		if o, a, e := gammon.Rolls(short); o != over || a != all || e != api.OK {
			t.Errorf("Rolls(%v) = %d/%d, %d; want %d/%d", short, o, a, e, over, all)
		}
	}
	if lists != 84 {
		t.Errorf("%d lists of up to three men", lists)
	}
}

func TestRollsRefuses(t *testing.T) {
	for _, c := range []struct {
		men  []int
		want api.Errno
	}{
		{make([]int, 7), api.ErrSize},
		{make([]int, 1<<20), api.ErrSize},
		{[]int{-1, 9, 0, 0, 0, 0, 0}, api.ErrSize},
		{[]int{-1}, api.ErrRange},
		{[]int{0, 0, 0, 0, 0, -1}, api.ErrRange},
		{[]int{4, -1}, api.ErrRange}, // ahead of that there are too many
		{[]int{math.MaxInt, 1, math.MinInt}, api.ErrRange},
		{[]int{math.MinInt}, api.ErrRange},
		{[]int{2, -1, 2}, api.ErrRange},
		{[]int{4}, api.ErrCount},
		{[]int{0, 0, 0, 0, 0, 4}, api.ErrCount},
		{[]int{1, 1, 1, 1}, api.ErrCount},
		{[]int{math.MaxInt}, api.ErrCount},
		{[]int{math.MaxInt, math.MaxInt, 2}, api.ErrCount}, // the sum wraps round to 0
		{[]int{math.MaxInt, math.MaxInt, 3}, api.ErrCount},
		{[]int{3, math.MaxInt}, api.ErrCount},
	} {
		if over, all, e := gammon.Rolls(c.men); over != 0 || all != 0 || e != c.want {
			t.Errorf("Rolls(%v) = %d/%d, %d; want %d", c.men[:min(len(c.men), 8)], over, all, e, c.want)
		}
	}
}

// What holds everywhere

func TestWhatIsHandedInStays(t *testing.T) {
	d := die(75)
	for range 200 {
		b := d.drawn()
		before := slices.Clone(b.Points)
		b.Points = roomy(before)
		gammon.May(b)
		for from := range 25 {
			gammon.Step(b, from, 1+d.below(6))
		}
		gammon.Moves(b, 1+d.below(6), 1+d.below(6))
		untouched(t, "gammon", b.Points, before)
	}
	for _, before := range [][]int{{}, {1}, {0, 1, 1}, {0, 0, 0, 1, 1}, {0, 0, 0, 0, 0, 2}, {9}, {-1}} {
		l := roomy(before)
		gammon.Rolls(l)
		untouched(t, "Rolls", l, before)
	}
}

func TestAnswersShareNothing(t *testing.T) {
	stuck := barred(white(map[int]int{10: 1, 19: -2, 24: -2}), 1, 0)
	for _, ask := range []func(b api.Gammon) []api.Gammon{
		func(b api.Gammon) []api.Gammon { a, _ := gammon.Step(b, 13, 2); return []api.Gammon{a} },
		func(b api.Gammon) []api.Gammon { l, _ := gammon.Moves(b, 1, 3); return l },
		func(b api.Gammon) []api.Gammon { l, _ := gammon.Moves(b, 2, 2); return l },
		func(api.Gammon) []api.Gammon { l, _ := gammon.Moves(stuck, 1, 6); return l },
	} {
		b := start()
		b.Points = roomy(b.Points)
		was := text(stuck)
		first := ask(b)
		kept := text(first...)
		second := ask(b)
		for i := range second {
			rest := text(second[i+1:]...)
			scribble(second[i].Points)
			if text(second[i+1:]...) != rest {
				t.Fatal("boards of one answer share memory")
			}
		}
		untouched(t, "an answer", b.Points, start().Points)
		if len(first) == 0 || text(first...) != kept || text(stuck) != was {
			t.Error("an answer shares memory with another, or with what was handed in")
		}
		scribble(b.Points)
		if text(first...) != kept {
			t.Error("an answer shares memory with what was handed in")
		}
		if again := ask(start()); text(again...) != kept {
			t.Errorf("not the same again: %v, was %v", again, kept)
		}
	}
}
