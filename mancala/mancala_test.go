package mancala_test

import (
	"fmt"
	"math"
	"slices"
	"testing"

	"gameroom/api"
	"gameroom/mancala"
)

const spare = -77

// roomy gives a list with spare room, so that a call that writes behind its end is found out.
func roomy(l []int) []int {
	r := make([]int, len(l)+8)
	copy(r, l)
	for i := len(l); i < len(r); i++ {
		r[i] = spare
	}
	return r[:len(l)]
}

func untouched(t *testing.T, what string, l, before []int) {
	t.Helper()
	if !slices.Equal(l, before) {
		t.Errorf("%s changed what was handed in: %v, was %v", what, l, before)
	}
	for _, x := range l[len(l):cap(l)] {
		if x != spare {
			t.Errorf("%s wrote into the spare room of what was handed in", what)
			return
		}
	}
}

// scribble overwrites a list and its spare room.
func scribble(l []int) {
	l = l[:cap(l)]
	for i := range l {
		l[i] = spare
	}
}

// die gives numbers that look drawn, the same each time.
type die uint64

func (d *die) below(n int) int {
	*d = *d*6364136223846793005 + 1442695040888963407
	return int(uint64(*d>>33) % uint64(n))
}

// first: a board with player 0 to move.
func first(seeds ...int) api.Mancala { return api.Mancala{Seeds: seeds} }

func second(seeds ...int) api.Mancala { return api.Mancala{Seeds: seeds, Turn: 1} }

func same(a, b api.Mancala) bool { return slices.Equal(a.Seeds, b.Seeds) && a.Turn == b.Turn }

func clone(b api.Mancala) api.Mancala {
	b.Seeds = slices.Clone(b.Seeds)
	return b
}

// turned around: the players changed.
func turned(b api.Mancala) api.Mancala {
	half := len(b.Seeds) / 2
	return api.Mancala{Seeds: slices.Concat(b.Seeds[half:], b.Seeds[:half]), Turn: 1 - b.Turn}
}

func sum(l []int) int {
	all := 0
	for _, n := range l {
		all += n
	}
	return all
}

// pitsOf a player; a piece of the board's own list.
func pitsOf(b api.Mancala, player int) []int {
	half := len(b.Seeds) / 2
	return b.Seeds[player*half:][:half-1]
}

func inPits(b api.Mancala) int { return sum(pitsOf(b, 0)) + sum(pitsOf(b, 1)) }

func over(b api.Mancala) bool { return sum(pitsOf(b, 0)) == 0 || sum(pitsOf(b, 1)) == 0 }

// drawn gives boards of all sizes, with few seeds and with many.
func (d *die) drawn() api.Mancala {
	b := api.Mancala{Seeds: make([]int, 2*(2+d.below(api.MaxPits))), Turn: d.below(2)}
	most := []int{2, 3, 6, 20, 72}[d.below(5)]
	for i := range b.Seeds {
		if d.below(3) > 0 {
			b.Seeds[i] = d.below(most)
		}
	}
	return b
}

// small gives boards of all sizes that can just be played out.
func (d *die) small() api.Mancala {
	b, _ := mancala.New(1+d.below(api.MaxPits), 0)
	b.Turn = d.below(2)
	for range api.MaxSmall {
		l := pitsOf(b, d.below(2))
		l[d.below(len(l))]++
	}
	return b
}

// P8.1

func TestNew(t *testing.T) {
	for pits := 1; pits <= api.MaxPits; pits++ {
		for seeds := 0; seeds <= api.MaxSeeds; seeds++ {
			half := append(slices.Repeat([]int{seeds}, pits), 0)
			want := first(slices.Concat(half, half)...)
			if b, e := mancala.New(pits, seeds); !same(b, want) || e != api.OK || !mancala.May(b) {
				t.Errorf("New(%d, %d) = %v, %d; want %v", pits, seeds, b, e, want)
			}
		}
	}
}

func TestNewRefuses(t *testing.T) {
	for _, c := range [][2]int{
		{0, 1}, {7, 1}, {-1, 1}, {math.MaxInt, 1}, {math.MinInt, 1}, {1 << 32, 1},
		{1, -1}, {1, 11}, {6, -1}, {6, 11}, {6, math.MaxInt}, {6, math.MinInt},
		{0, 0}, {0, 11}, {7, -1}, {-1, -1},
	} {
		if b, e := mancala.New(c[0], c[1]); len(b.Seeds) != 0 || b.Turn != 0 || e != api.ErrRange {
			t.Errorf("New(%d, %d) = %v, %d; want %d", c[0], c[1], b, e, api.ErrRange)
		}
	}
}

func TestMay(t *testing.T) {
	for _, c := range []struct {
		what string
		b    api.Mancala
		want bool
	}{
		{"one pit each", first(1, 0, 1, 0), true},
		{"the second is to move", second(1, 0, 1, 0), true},
		{"no seed", first(0, 0, 0, 0), true},
		{"turn 2", api.Mancala{Seeds: make([]int, 4), Turn: 2}, false},
		{"turn -1", api.Mancala{Seeds: make([]int, 4), Turn: -1}, false},
		{"the greatest turn", api.Mancala{Seeds: make([]int, 4), Turn: math.MaxInt}, false},
		{"the least turn", api.Mancala{Seeds: make([]int, 4), Turn: math.MinInt}, false},
		{"1000 in a pit", first(1000, 0, 0, 0), true},
		{"1001 in a pit", first(1001, 0, 0, 0), false},
		{"1000 in a store", first(0, 0, 0, 1000), true},
		{"1001 in a store", first(0, 0, 0, 1001), false},
		{"1000 in parts", first(250, 250, 250, 250), true},
		{"1001 in parts", first(250, 250, 250, 251), false},
		{"a sum that wraps round to 0", first(math.MaxInt, math.MaxInt, 2, 0), false},
		{"a sum that wraps round to 1", first(math.MaxInt, math.MaxInt, 2, 1), false},
		{"the greatest number", first(1, 1, 1, math.MaxInt), false},
		{"the least number", first(math.MinInt, 0, 0, 0), false},
		{"one below 0 in a pit", first(-1, 0, 1, 0), false},
		{"one below 0 in the other's pit", first(1, 0, -1, 0), false},
		{"one below 0 in a store", first(1, -1, 1, 0), false},
		{"one below 0 at the end", first(1, 1, 1, -1), false},
		{"one below 0 that makes a sum small", first(1001, -1, 0, 0), false},
	} {
		if got := mancala.May(c.b); got != c.want {
			t.Errorf("%s: May answers %v", c.what, got)
		}
	}
}

func TestMayOfLengths(t *testing.T) {
	for n := range 40 {
		want := n >= 4 && n <= 14 && n%2 == 0
		if got := mancala.May(first(make([]int, n)...)); got != want {
			t.Errorf("May of %d numbers: %v", n, got)
		}
	}
	if mancala.May(api.Mancala{}) || mancala.May(first(make([]int, 1<<20)...)) {
		t.Error("May takes no numbers, or very many")
	}
}

// P8.2

func TestSow(t *testing.T) {
	for _, c := range []struct {
		what  string
		b     api.Mancala
		pit   int
		want  api.Mancala
		again bool
	}{
		{"the chapter's example", first(1, 1, 0, 1, 1, 0), 1, first(1, 0, 1, 1, 1, 0), true},
		{"into a pit that has some", first(1, 1, 0, 1, 1, 0), 0, second(0, 2, 0, 1, 1, 0), false},
		{"over the store into the other's", first(1, 2, 0, 1, 1, 0), 1, second(1, 0, 1, 2, 1, 0), false},
		{"into an empty pit of the other's", first(1, 2, 0, 0, 1, 0), 1, second(1, 0, 1, 1, 1, 0), false},
		{"the stores have some", first(1, 1, 7, 1, 1, 5), 1, first(1, 0, 8, 1, 1, 5), true},
		{"past the other's store", first(1, 4, 0, 1, 1, 9), 1, second(2, 0, 1, 2, 2, 9), false},
		{"more than a round into the store", first(1, 6, 0, 1, 1, 9), 1, first(2, 1, 2, 2, 2, 9), true},
		{"a round into the sown pit", first(1, 5, 0, 1, 1, 9), 1, second(2, 0, 4, 0, 2, 9), false},
		{"two rounds into the sown pit", first(1, 10, 0, 1, 1, 9), 1, second(3, 2, 2, 3, 3, 9), false},
		{"twice into one that was empty", first(0, 9, 0, 1, 1, 9), 1, second(2, 1, 2, 3, 3, 9), false},
		{"all that can be", first(0, 999, 0, 0, 1, 0), 1, second(200, 199, 200, 200, 201, 0), false},
		{"none across", first(1, 0, 1, 0, 3, 0), 0, second(0, 1, 1, 0, 3, 0), false},
		{"some across the last pit", first(1, 1, 0, 2, 7, 1, 1, 4), 1, second(1, 0, 0, 10, 0, 1, 1, 4), false},
		{"some across a pit of six", first(1, 0, 0, 0, 0, 1, 5, 1, 2, 3, 4, 5, 6, 2), 0, second(0, 0, 0, 0, 0, 1, 11, 1, 2, 3, 4, 0, 6, 2), false},
		{"one across that was just sown", first(1, 0, 6, 0, 1, 0, 0, 0), 2, second(2, 0, 0, 3, 2, 0, 1, 0), false},
		{"over: the last goes into the store", first(0, 1, 3, 2, 1, 4), 1, first(0, 0, 4, 0, 0, 7), true},
		{"over: it goes to the other's", first(0, 0, 2, 0, 0, 1, 0, 2), 2, second(0, 0, 0, 1, 0, 0, 0, 4), false},
		{"over: it was taken with others", first(1, 0, 0, 3, 1, 4), 0, second(0, 0, 4, 0, 0, 5), false},
		{"over: so, by a round", first(0, 4, 0, 1, 1, 9), 1, second(0, 0, 4, 0, 0, 11), false},
		{"over: the other's were taken", first(1, 0, 2, 0, 0, 3, 0, 1), 0, second(0, 0, 0, 6, 0, 0, 0, 1), false},
		{"one pit: the last of both", first(1, 0, 1, 0), 0, first(0, 1, 0, 1), true},
		{"one pit: into the other's", first(2, 0, 1, 0), 0, second(0, 1, 0, 2), false},
		{"one pit: a round", first(3, 0, 1, 0), 0, second(0, 4, 0, 0), false},
		{"one pit: more than a round", first(4, 0, 1, 0), 0, first(1, 2, 2, 0), true},
	} {
		got, again, e := mancala.Sow(c.b, c.pit)
		if !same(got, c.want) || again != c.again || e != api.OK {
			t.Errorf("%s: %v, %v, %d; want %v, %v", c.what, got, again, e, c.want, c.again)
		}
		got, again, e = mancala.Sow(turned(c.b), c.pit)
		if !same(got, turned(c.want)) || again != c.again || e != api.OK {
			t.Errorf("%s, turned around: %v, %v, %d; want %v, %v", c.what, got, again, e, turned(c.want), c.again)
		}
	}
}

// plainSow counts how many seeds each place of the round gets, all at once.
func plainSow(b api.Mancala, pit int) (api.Mancala, bool) {
	if b.Turn == 1 {
		next, again := plainSow(turned(b), pit)
		return turned(next), again
	}
	b = clone(b)
	store := len(b.Seeds)/2 - 1
	round := len(b.Seeds) - 1 // the last place of all is the other's store
	seeds := b.Seeds[pit]
	b.Seeds[pit] = 0
	for i := range round {
		b.Seeds[(pit+1+i)%round] += (seeds + round - 1 - i) / round
	}
	last := (pit + seeds) % round
	again := last == store
	if across := 2*store - last; last < store && b.Seeds[last] == 1 && b.Seeds[across] > 0 {
		b.Seeds[store] += 1 + b.Seeds[across]
		b.Seeds[last], b.Seeds[across] = 0, 0
	}
	if over(b) {
		b.Seeds[store] += sum(pitsOf(b, 0))
		b.Seeds[round] += sum(pitsOf(b, 1))
		clear(pitsOf(b, 0))
		clear(pitsOf(b, 1))
	}
	if !again {
		b.Turn = 1
	}
	return b, again
}

func TestSowOfMany(t *testing.T) {
	d := die(81)
	seen := map[string]int{}
	for range 20000 {
		b := d.drawn()
		for pit, n := range pitsOf(b, b.Turn) {
			got, again, e := mancala.Sow(b, pit)
			switch {
			case over(b):
				seen["over"]++
				if len(got.Seeds) != 0 || got.Turn != 0 || again || e != api.ErrOver {
					t.Fatalf("Sow(%v, %d) = %v, %v, %d; want %d", b, pit, got, again, e, api.ErrOver)
				}
			case n == 0:
				seen["empty"]++
				if len(got.Seeds) != 0 || got.Turn != 0 || again || e != api.ErrNone {
					t.Fatalf("Sow(%v, %d) = %v, %v, %d; want %d", b, pit, got, again, e, api.ErrNone)
				}
			default:
				seen[fmt.Sprint(again, over(got))]++
				want, more := plainSow(b, pit)
				if !same(got, want) || again != more || e != api.OK {
					t.Fatalf("Sow(%v, %d) = %v, %v, %d; want %v, %v", b, pit, got, again, e, want, more)
				}
			}
		}
	}
	for _, kind := range []string{"over", "empty", "false false", "false true", "true false", "true true"} {
		if seen[kind] < 100 {
			t.Errorf("too few of the kind %s: %d", kind, seen[kind])
		}
	}
}

func TestSowLosesNoSeed(t *testing.T) {
	d := die(82)
	ended := 0
	for range 500 {
		b, _ := mancala.New(1+d.below(api.MaxPits), d.below(api.MaxSeeds+1))
		all := sum(b.Seeds)
		// With wrong pits among them 5000 draws are enough to end any of these games.
		for range 5000 {
			next, again, e := mancala.Sow(b, d.below(api.MaxPits))
			if e == api.ErrOver {
				ended++
				if inPits(b) != 0 {
					t.Fatalf("over, but %v", b)
				}
				break
			}
			if e != api.OK {
				continue
			}
			if sum(next.Seeds) != all || !mancala.May(next) || again != (next.Turn == b.Turn) {
				t.Fatalf("%v comes of %v", next, b)
			}
			b = next
		}
	}
	if ended != 500 {
		t.Errorf("%d of 500 games ended", ended)
	}
}

func TestSowRefuses(t *testing.T) {
	for _, c := range []struct {
		b    api.Mancala
		pit  int
		want api.Errno
	}{
		{api.Mancala{}, 0, api.ErrState},
		{first(1, 0, 1), 0, api.ErrState},
		{first(1, 1, 0, 1, 1), 0, api.ErrState},
		{first(make([]int, 16)...), 0, api.ErrState},
		{first(-1, 0, 0, 0), 5, api.ErrState},
		{first(1, -1, 1, 0), 0, api.ErrState},
		{first(1, 1000, 1, 0), 0, api.ErrState},
		{api.Mancala{Seeds: []int{1, 0, 1, 0}, Turn: 2}, 0, api.ErrState},
		{api.Mancala{Seeds: []int{0, 0, 0, 0}, Turn: -1}, -1, api.ErrState},
		{first(0, 0, 0, 0), 0, api.ErrOver},
		{first(0, 9, 0, 9), 0, api.ErrOver},
		{first(0, 0, 0, 1, 1, 0), 0, api.ErrOver}, // the mover's are empty
		{first(1, 1, 0, 0, 0, 0), 0, api.ErrOver}, // the other's are
		{first(1, 1, 0, 0, 0, 0), 2, api.ErrOver}, // ahead of that there is no such pit
		{first(1, 0, 0, 0, 0, 0), 1, api.ErrOver}, // ahead of that it is empty
		{first(1, 0, 5, 1, 1, 5), -1, api.ErrRange},
		{first(1, 0, 5, 1, 1, 5), 2, api.ErrRange}, // the store
		{first(1, 0, 5, 1, 1, 5), 3, api.ErrRange}, // the other's
		{first(1, 0, 5, 1, 1, 5), 6, api.ErrRange},
		{first(1, 0, 5, 1, 1, 5), math.MaxInt, api.ErrRange},
		{first(1, 0, 5, 1, 1, 5), math.MinInt, api.ErrRange},
		{first(1, 0, 5, 1, 1, 5), 1, api.ErrNone},
		{first(0, 1, 5, 0, 1, 5), 0, api.ErrNone},
	} {
		b, again, e := mancala.Sow(c.b, c.pit)
		if len(b.Seeds) != 0 || b.Turn != 0 || again || e != c.want {
			t.Errorf("Sow(%v, %d) = %v, %v, %d; want %d", c.b, c.pit, b, again, e, c.want)
		}
		if c.want == api.ErrState {
			continue
		}
		if _, _, e := mancala.Sow(turned(c.b), c.pit); e != c.want {
			t.Errorf("Sow(%v, %d), turned around: %d; want %d", turned(c.b), c.pit, e, c.want)
		}
	}
}

// P8.3

func TestValue(t *testing.T) {
	for _, c := range []struct {
		what  string
		b     api.Mancala
		value int
		pit   int
	}{
		{"no seed", first(0, 0, 0, 0), 0, -1},
		{"over, all in stores", first(0, 3, 0, 5), -2, -1},
		{"over, the mover has some in pits", first(1, 2, 4, 0, 0, 1), 6, -1},
		{"over, the other one has", first(0, 0, 4, 2, 1, 1), 0, -1},
		{"over, with as many in pits as may be", first(4, 0, 0, 0), 4, -1},
		{"the last of both", first(1, 0, 1, 0), 0, 0},
		{"a gift", first(2, 0, 1, 0), -1, 0},
		{"all by a round", first(3, 0, 1, 0), 4, 0},
		{"stores count", first(1, 7, 1, 989), -982, 0},
		{"all seeds that may be", first(3, 996, 1, 0), 1000, 0},
		{"some are taken", first(1, 0, 0, 3, 0, 0), 4, 0},
		{"just one pit has some", first(0, 1, 0, 1, 0, 0), 0, 1},
		{"the later one is better", first(1, 1, 0, 2, 0, 0), 4, 1},
		{"either is as good", first(2, 1, 0, 0, 1, 0, 0, 0), 4, 0},
	} {
		if n, pit, e := mancala.Value(c.b); n != c.value || pit != c.pit || e != api.OK {
			t.Errorf("%s: %d, %d, %d; want %d, %d", c.what, n, pit, e, c.value, c.pit)
		}
		if n, pit, e := mancala.Value(turned(c.b)); n != -c.value || pit != c.pit || e != api.OK {
			t.Errorf("%s, turned around: %d, %d, %d; want %d, %d", c.what, n, pit, e, -c.value, c.pit)
		}
	}
}

type best struct{ lead, pit int }

// plainBest for the mover: the board is turned around for the second one, so that both look for the most.
func plainBest(known map[string]best, b api.Mancala) best {
	if b.Turn == 1 {
		b = turned(b)
	}
	half := len(b.Seeds) / 2
	if over(b) {
		return best{sum(b.Seeds[:half]) - sum(b.Seeds[half:]), -1}
	}
	key := fmt.Sprint(b.Seeds)
	if r, ok := known[key]; ok {
		return r
	}
	r := best{math.MinInt, -1}
	for pit, n := range pitsOf(b, 0) {
		if n == 0 {
			continue
		}
		next, again := plainSow(b, pit)
		lead := plainBest(known, next).lead
		if !again {
			lead = -lead
		}
		if lead > r.lead {
			r = best{lead, pit}
		}
	}
	known[key] = r
	return r
}

// lay calls for all ways to lay up to so many seeds in the pits of a board, from one place on.
func lay(b api.Mancala, place, most int, call func()) {
	half := len(b.Seeds) / 2
	switch {
	case place == len(b.Seeds):
		call()
	case place%half == half-1:
		lay(b, place+1, most, call)
	default:
		for n := range most + 1 {
			b.Seeds[place] = n
			lay(b, place+1, most-n, call)
		}
		b.Seeds[place] = 0
	}
}

func TestValueOfAll(t *testing.T) {
	boards := 0
	for pits := 1; pits <= api.MaxPits; pits++ {
		known := map[string]best{}
		b, _ := mancala.New(pits, 0)
		lay(b, 0, api.MaxSmall, func() {
			boards++
			want := plainBest(known, b)
			if n, pit, e := mancala.Value(b); n != want.lead || pit != want.pit || e != api.OK {
				t.Errorf("Value(%v) = %d, %d, %d; want %v", b, n, pit, e, want)
			}
			c := turned(b)
			if n, pit, e := mancala.Value(c); n != -want.lead || pit != want.pit || e != api.OK {
				t.Errorf("Value(%v) = %d, %d, %d; want %d, %d", c, n, pit, e, -want.lead, want.pit)
			}
		})
	}
	if boards != 15+70+210+495+1001+1820 {
		t.Errorf("%d boards", boards)
	}
}

// What lies in stores is in the end there, too, and changes nothing else.
func TestValueWithStores(t *testing.T) {
	d := die(83)
	for range 300 {
		b := d.small()
		n, pit, _ := mancala.Value(b)
		mine, others := d.below(498), d.below(498)
		half := len(b.Seeds) / 2
		b.Seeds[half-1], b.Seeds[2*half-1] = mine, others
		if m, p, e := mancala.Value(b); m != n+mine-others || p != pit || e != api.OK {
			t.Errorf("Value(%v) = %d, %d, %d; want %d, %d", b, m, p, e, n+mine-others, pit)
		}
	}
}

// With the pits that Value tells, and with any others of the other one's, the mover has what it was told, or more.
func TestValueIsReached(t *testing.T) {
	d := die(84)
	for range 300 {
		b := d.small()
		told, mover := b, b.Turn
		promised, pit, e := mancala.Value(b)
		for e == api.OK && pit != -1 {
			if b.Turn != mover {
				l := pitsOf(b, b.Turn)
				for pit = d.below(len(l)); l[pit] == 0; pit = d.below(len(l)) {
				}
			}
			b, _, _ = mancala.Sow(b, pit)
			_, pit, e = mancala.Value(b)
		}
		half := len(b.Seeds) / 2
		lead := sum(b.Seeds[:half]) - sum(b.Seeds[half:])
		if e != api.OK || (mover == 0 && lead < promised) || (mover == 1 && lead > promised) {
			t.Errorf("Value(%v) is %d, but it came to %d (%d)", told, promised, lead, e)
		}
	}
}

func TestValueRefuses(t *testing.T) {
	for _, c := range []struct {
		b    api.Mancala
		want api.Errno
	}{
		{api.Mancala{}, api.ErrState},
		{first(0, 0), api.ErrState},
		{first(1, 1, 0, 1, 1), api.ErrState},
		{first(make([]int, 16)...), api.ErrState},
		{first(-1, 0, 0, 0), api.ErrState},
		{first(9, 0, 9, -1), api.ErrState}, // ahead of that there are too many
		{first(5, 0, 5, 991), api.ErrState},
		{first(math.MaxInt, 0, math.MaxInt, 2), api.ErrState},
		{api.Mancala{Seeds: []int{1, 0, 1, 0}, Turn: 2}, api.ErrState},
		{api.Mancala{Seeds: []int{9, 0, 9, 0}, Turn: -1}, api.ErrState},
		{first(4, 0, 1, 0), api.ErrSize},
		{first(2, 0, 3, 0), api.ErrSize},
		{second(1, 1, 0, 1, 2, 0), api.ErrSize},
		{first(5, 0, 0, 0), api.ErrSize}, // though it is over
		{first(0, 0, 5, 0), api.ErrSize},
		{first(1000, 0, 0, 0), api.ErrSize},
		{first(1, 1, 1, 1, 1, 1, 0, 1, 1, 1, 1, 1, 1, 0), api.ErrSize},
	} {
		if n, pit, e := mancala.Value(c.b); n != 0 || pit != 0 || e != c.want {
			t.Errorf("Value(%v) = %d, %d, %d; want %d", c.b, n, pit, e, c.want)
		}
	}
}

// What holds everywhere

func TestWhatIsHandedInStays(t *testing.T) {
	d := die(85)
	for range 300 {
		b := d.drawn()
		before := slices.Clone(b.Seeds)
		b.Seeds = roomy(before)
		mancala.May(b)
		for pit := range api.MaxPits {
			mancala.Sow(b, pit)
		}
		mancala.Value(b)
		untouched(t, "mancala", b.Seeds, before)
	}
	small := []int{1, 0, 1, 5, 0, 2, 0, 5}
	l := roomy(small)
	mancala.Value(first(l...))
	mancala.Value(api.Mancala{Seeds: l, Turn: 1})
	untouched(t, "Value", l, small)
}

func TestAnswersShareNothing(t *testing.T) {
	for _, ask := range []func(b api.Mancala) api.Mancala{
		func(api.Mancala) api.Mancala { a, _ := mancala.New(3, 4); return a },
		func(b api.Mancala) api.Mancala { a, _, _ := mancala.Sow(b, 0); return a },
		func(b api.Mancala) api.Mancala { b.Turn = 1; a, _, _ := mancala.Sow(b, 2); return a },
	} {
		start := []int{1, 2, 3, 4, 5, 6, 7, 8}
		b := api.Mancala{Seeds: roomy(start)}
		one := ask(b)
		kept := clone(one)
		scribble(ask(b).Seeds)
		untouched(t, "an answer", b.Seeds, start)
		if len(one.Seeds) == 0 || !same(one, kept) {
			t.Error("an answer shares memory with another one")
		}
		scribble(b.Seeds)
		if !same(one, kept) {
			t.Error("an answer shares memory with what was handed in")
		}
		if again := ask(first(start...)); !same(again, kept) {
			t.Errorf("not the same again: %v, was %v", again, kept)
		}
	}
}
