package dice_test

import (
	"math"
	"slices"
	"testing"

	"gameroom/api"
	"gameroom/dice"
)

const spare = -77

// roomy gives a list with spare room, so that a call that writes behind its end is found out.
func roomy(l []int) []int {
	r := make([]int, len(l)+8)
	copy(r, l)
	for i := len(l); i < len(r); i++ {
		r[i] = spare
	}
	return r[:len(l)]
}

func untouched(t *testing.T, what string, l, before []int) {
	t.Helper()
	if !slices.Equal(l, before) {
		t.Errorf("%s changed what was handed in: %v, was %v", what, l, before)
	}
	for _, x := range l[len(l):cap(l)] {
		if x != spare {
			t.Errorf("%s wrote into the spare room of what was handed in", what)
			return
		}
	}
}

// scribble overwrites a list and its spare room.
func scribble(l []int) {
	l = l[:cap(l)]
	for i := range l {
		l[i] = spare
	}
}

// die gives numbers that look drawn, the same each time.
type die uint64

func (d *die) below(n int) int {
	*d = *d*6364136223846793005 + 1442695040888963407
	return int(uint64(*d>>33) % uint64(n))
}

func (d *die) draw(n, least, below int) []int {
	var l []int
	for range n {
		l = append(l, least+d.below(below-least))
	}
	return l
}

// times gives n alike.
func times(n, x int) []int {
	return slices.Repeat([]int{x}, n)
}

func total(l []int) int {
	all := 0
	for _, n := range l {
		all += n
	}
	return all
}

func product(l []int) int {
	all := 1
	for _, n := range l {
		all *= n
	}
	return all
}

// thrown: what dice show in the way of a number. Each way has its own number below the product of all sides.
func thrown(l []int, way int) []int {
	var shown []int
	for _, sides := range l {
		shown = append(shown, 1+way%sides)
		way /= sides
	}
	return shown
}

// plainSums goes through all ways.
func plainSums(l []int) []int {
	r := make([]int, total(l)-len(l)+1)
	for way := range product(l) {
		r[total(thrown(l, way))-len(l)]++
	}
	return r
}

// plainKeep goes through all ways, and takes the least dice away.
func plainKeep(n, sides, k int) []int {
	l := times(n, sides)
	r := make([]int, k*sides-k+1)
	for way := range product(l) {
		shown := thrown(l, way)
		for len(shown) > k {
			least := slices.Index(shown, slices.Min(shown))
			shown = slices.Delete(shown, least, least+1)
		}
		r[total(shown)-k]++
	}
	return r
}

// plainExploding goes by what the first throw shows.
func plainExploding(sides, deep int) []int {
	r := times(sides, 1)
	for range deep {
		all := total(r)
		r = slices.Concat(times(sides-1, all), []int{0}, r)
	}
	return r
}

func choose(n, k int) int {
	if k > n {
		return 0
	}
	r := 1
	for i := range k {
		r = r * (n - i) / (i + 1)
	}
	return r
}

// ruled: in how many ways dice that are alike bring a sum, by leaving out those with too many pips, and bringing back what was left out twice.
func ruled(n, sides, sum int) int {
	r, sign := 0, 1
	for over := range n + 1 {
		if sum-sides*over >= n {
			r += sign * choose(n, over) * choose(sum-sides*over-1, n-1)
		}
		sign = -sign
	}
	return r
}

// P6.1

func TestSums(t *testing.T) {
	for _, c := range []struct {
		dice, want []int
	}{
		{[]int{6, 6}, []int{1, 2, 3, 4, 5, 6, 5, 4, 3, 2, 1}},
		{[]int{1}, []int{1}},
		{[]int{2}, []int{1, 1}},
		{[]int{6}, []int{1, 1, 1, 1, 1, 1}},
		{[]int{20}, times(20, 1)},
		{[]int{1, 1, 1}, []int{1}},
		{times(10, 1), []int{1}},
		{[]int{1, 6}, []int{1, 1, 1, 1, 1, 1}},
		{[]int{2, 3}, []int{1, 2, 2, 1}},
		{[]int{3, 2}, []int{1, 2, 2, 1}},
		{[]int{4, 6}, []int{1, 2, 3, 4, 4, 4, 3, 2, 1}},
		{[]int{2, 2, 2}, []int{1, 3, 3, 1}},
		{[]int{6, 6, 6}, []int{1, 3, 6, 10, 15, 21, 25, 27, 27, 25, 21, 15, 10, 6, 3, 1}},
		{times(10, 2), []int{1, 10, 45, 120, 210, 252, 210, 120, 45, 10, 1}},
	} {
		if l, e := dice.Sums(c.dice); !slices.Equal(l, c.want) || e != api.OK {
			t.Errorf("Sums(%v) = %v, %d; want %v", c.dice, l, e, c.want)
		}
	}
}

func TestSumsOfAlike(t *testing.T) {
	for n := 1; n <= 10; n++ {
		for sides := 1; sides <= 20; sides++ {
			l, e := dice.Sums(times(n, sides))
			if len(l) != n*sides-n+1 || e != api.OK {
				t.Fatalf("Sums of %d dice with %d sides: %d sums, %d", n, sides, len(l), e)
			}
			for i, ways := range l {
				if want := ruled(n, sides, n+i); ways != want {
					t.Errorf("Sums of %d dice with %d sides: %d comes in %d ways; want %d", n, sides, n+i, ways, want)
				}
			}
		}
	}
}

func TestSumsOfMany(t *testing.T) {
	d := die(61)
	for range 300 { // few enough ways to go through
		l := d.draw(1+d.below(5), 1, 8)
		if got, e := dice.Sums(l); !slices.Equal(got, plainSums(l)) || e != api.OK {
			t.Errorf("Sums(%v) = %v, %d; want %v", l, got, e, plainSums(l))
		}
	}
	for range 2000 {
		l := d.draw(1+d.below(10), 1, 21)
		got, e := dice.Sums(l)
		if len(got) != total(l)-len(l)+1 || total(got) != product(l) || e != api.OK {
			t.Errorf("Sums(%v): %d sums, %d ways, %d", l, len(got), total(got), e)
		}
		for i := range got {
			if got[i] != got[len(got)-1-i] {
				t.Errorf("Sums(%v) = %v: not alike from both ends", l, got)
				break
			}
		}
		slices.Reverse(l)
		if other, _ := dice.Sums(l); !slices.Equal(got, other) {
			t.Errorf("Sums(%v) = %v, but %v from the other end", l, other, got)
		}
	}
}

func TestSumsRefuses(t *testing.T) {
	for _, c := range []struct {
		dice []int
		want api.Errno
	}{
		{nil, api.ErrSize},
		{[]int{}, api.ErrSize},
		{times(11, 1), api.ErrSize},
		{times(11, 0), api.ErrSize}, // ahead of the sides
		{times(11, 21), api.ErrSize},
		{times(100000, 6), api.ErrSize},
		{[]int{0}, api.ErrRange},
		{[]int{-1}, api.ErrRange},
		{[]int{21}, api.ErrRange},
		{[]int{6, 0}, api.ErrRange},
		{[]int{0, 6}, api.ErrRange},
		{[]int{6, 21, 6}, api.ErrRange},
		{[]int{6, 6, math.MaxInt}, api.ErrRange},
		{[]int{6, 6, math.MinInt}, api.ErrRange},
		{append(times(9, 20), 21), api.ErrRange},
		{append(times(9, 20), 0), api.ErrRange},
	} {
		if l, e := dice.Sums(c.dice); len(l) != 0 || e != c.want {
			t.Errorf("Sums(%v) = %v, %d; want %d", c.dice[:min(12, len(c.dice))], l, e, c.want)
		}
	}
}

// P6.2

func TestKeep(t *testing.T) {
	for _, c := range []struct {
		n, sides, k int
		want        []int
	}{
		{1, 1, 1, []int{1}},
		{1, 6, 1, times(6, 1)},
		{1, 20, 1, times(20, 1)},
		{10, 1, 1, []int{1}},
		{10, 1, 7, []int{1}},
		{10, 1, 10, []int{1}},
		{2, 2, 1, []int{1, 3}},
		{2, 6, 1, []int{1, 3, 5, 7, 9, 11}},
		{2, 6, 2, []int{1, 2, 3, 4, 5, 6, 5, 4, 3, 2, 1}},
		{3, 2, 1, []int{1, 7}},
		{3, 2, 2, []int{1, 3, 4}},
		{3, 3, 1, []int{1, 7, 19}},
		{3, 3, 2, []int{1, 3, 7, 9, 7}},
		{4, 6, 3, []int{1, 4, 10, 21, 38, 62, 91, 122, 148, 167, 172, 160, 131, 94, 54, 21}},
		{10, 2, 1, []int{1, 1023}},
		{10, 2, 9, []int{1, 10, 45, 120, 210, 252, 210, 120, 45, 11}},
	} {
		if l, e := dice.Keep(c.n, c.sides, c.k); !slices.Equal(l, c.want) || e != api.OK {
			t.Errorf("Keep(%d, %d, %d) = %v, %d; want %v", c.n, c.sides, c.k, l, e, c.want)
		}
	}
}

func TestKeepOfMany(t *testing.T) {
	for n := 1; n <= 10; n++ {
		for sides := 1; sides <= 20; sides++ {
			l := times(n, sides)
			for k := 1; k <= n; k++ {
				got, e := dice.Keep(n, sides, k)
				if product(l) > 100000 {
					if len(got) != 0 || e != api.ErrCount {
						t.Errorf("Keep(%d, %d, %d) = %v, %d; want %d: too many ways", n, sides, k, got, e, api.ErrCount)
					}
					continue
				}
				if len(got) != k*sides-k+1 || total(got) != product(l) || e != api.OK {
					t.Errorf("Keep(%d, %d, %d): %d sums, %d ways, %d", n, sides, k, len(got), total(got), e)
				}
				if product(l) > 2000 {
					continue
				}
				if want := plainKeep(n, sides, k); !slices.Equal(got, want) {
					t.Errorf("Keep(%d, %d, %d) = %v; want %v", n, sides, k, got, want)
				}
			}
		}
	}
}

// TestKeepAtItsEnds: of all dice Keep is Sums; of one it is what none of them goes beyond.
func TestKeepAtItsEnds(t *testing.T) {
	for n := 1; n <= 10; n++ {
		for sides := 1; sides <= 20 && product(times(n, sides)) <= 100000; sides++ {
			all, _ := dice.Keep(n, sides, n)
			if sums, _ := dice.Sums(times(n, sides)); !slices.Equal(all, sums) {
				t.Errorf("Keep(%d, %d, %d) = %v, but Sums = %v", n, sides, n, all, sums)
			}
			one, _ := dice.Keep(n, sides, 1)
			for i, ways := range one {
				if want := product(times(n, i+1)) - product(times(n, i)); ways != want {
					t.Errorf("Keep(%d, %d, 1): %d comes in %d ways; want %d", n, sides, i+1, ways, want)
				}
			}
		}
	}
}

func TestKeepRefuses(t *testing.T) {
	for _, c := range []struct {
		n, sides, k int
		want        api.Errno
	}{
		{0, 6, 1, api.ErrSize},
		{-1, 6, 1, api.ErrSize},
		{11, 1, 1, api.ErrSize},
		{math.MinInt, 6, 1, api.ErrSize},
		{math.MaxInt, 6, 1, api.ErrSize},
		{0, 0, 0, api.ErrSize}, // ahead of all else
		{11, 21, 12, api.ErrSize},
		{math.MaxInt, math.MaxInt, math.MaxInt, api.ErrSize},
		{1, 0, 1, api.ErrRange},
		{1, -1, 1, api.ErrRange},
		{1, 21, 1, api.ErrRange},
		{1, math.MinInt, 1, api.ErrRange},
		{10, math.MaxInt, 1, api.ErrRange},
		{10, 21, 11, api.ErrRange}, // ahead of the count
		{2, 0, 0, api.ErrRange},
		{1, 6, 0, api.ErrCount},
		{1, 6, 2, api.ErrCount},
		{1, 6, -1, api.ErrCount},
		{10, 1, 11, api.ErrCount},
		{4, 6, math.MinInt, api.ErrCount},
		{4, 6, math.MaxInt, api.ErrCount},
		{10, 20, 1, api.ErrCount}, // too many ways
		{10, 4, 1, api.ErrCount},
		{9, 4, 9, api.ErrCount},
		{7, 6, 7, api.ErrCount},
		{6, 7, 3, api.ErrCount},
		{5, 11, 5, api.ErrCount},
		{4, 18, 1, api.ErrCount},
		{10, 20, 11, api.ErrCount},
	} {
		if l, e := dice.Keep(c.n, c.sides, c.k); len(l) != 0 || e != c.want {
			t.Errorf("Keep(%d, %d, %d) = %v, %d; want %d", c.n, c.sides, c.k, l, e, c.want)
		}
	}
	if l, e := dice.Keep(5, 10, 2); len(l) != 19 || total(l) != 100000 || e != api.OK {
		t.Errorf("Keep(5, 10, 2) = %v, %d: just as many ways as may be", l, e)
	}
}

// P6.3

func TestDuel(t *testing.T) {
	six := []int{1, 2, 3, 4, 5, 6}
	for _, c := range []struct {
		a, b               []int
		wins, ties, losses int
	}{
		{six, six, 15, 6, 15},
		{[]int{1}, []int{1}, 0, 1, 0},
		{[]int{2}, []int{1}, 1, 0, 0},
		{[]int{1}, []int{2}, 0, 0, 1},
		{[]int{0}, []int{-5}, 1, 0, 0},
		{[]int{-5}, []int{-4}, 0, 0, 1},
		{[]int{2, 4, 9}, []int{1, 6, 8}, 5, 0, 4}, // a ring
		{[]int{1, 6, 8}, []int{3, 5, 7}, 5, 0, 4},
		{[]int{3, 5, 7}, []int{2, 4, 9}, 5, 0, 4},
		{[]int{9, 2, 4}, []int{8, 1, 6}, 5, 0, 4},    // in any order
		{[]int{3, 3, 3}, []int{1, 3, 3}, 3, 6, 0},    // sides that are alike are several
		{[]int{3}, []int{1, 2, 3, 4, 5}, 2, 1, 2},    // not as many sides
		{[]int{1, 2, 3, 4, 5}, []int{3, 3}, 4, 2, 4}, // the other way round
		{[]int{math.MaxInt}, []int{math.MinInt}, 1, 0, 0},
		{[]int{math.MinInt}, []int{math.MaxInt}, 0, 0, 1},
		{[]int{math.MinInt}, []int{1}, 0, 0, 1},
		{[]int{math.MaxInt}, []int{-1}, 1, 0, 0},
		{[]int{math.MinInt, math.MaxInt}, []int{math.MinInt, math.MaxInt}, 1, 2, 1},
		{times(20, 7), times(20, 7), 0, 400, 0},
		{times(20, 8), times(20, 7), 400, 0, 0},
		{times(20, 7), times(20, 8), 0, 0, 400},
		{times(20, 7), []int{9}, 0, 0, 20},
	} {
		wins, ties, losses, e := dice.Duel(c.a, c.b)
		if wins != c.wins || ties != c.ties || losses != c.losses || e != api.OK {
			t.Errorf("Duel(%v, %v) = %d, %d, %d, %d; want %d, %d, %d", c.a, c.b, wins, ties, losses, e, c.wins, c.ties, c.losses)
		}
	}
}

func TestDuelOfMany(t *testing.T) {
	d := die(63)
	for range 3000 {
		a, b := d.draw(1+d.below(20), -9, 10), d.draw(1+d.below(20), -9, 10)
		var want [3]int
		for _, x := range a {
			for _, y := range b {
				switch {
				case x > y:
					want[0]++
				case x == y:
					want[1]++
				default:
					want[2]++
				}
			}
		}
		wins, ties, losses, e := dice.Duel(a, b)
		if [3]int{wins, ties, losses} != want || e != api.OK {
			t.Errorf("Duel(%v, %v) = %d, %d, %d, %d; want %v", a, b, wins, ties, losses, e, want)
		}
		if w, x, l, _ := dice.Duel(b, a); w != losses || x != ties || l != wins {
			t.Errorf("Duel(%v, %v) = %d, %d, %d, but %d, %d, %d the other way round", b, a, w, x, l, wins, ties, losses)
		}
	}
}

func TestDuelRefuses(t *testing.T) {
	one := []int{5}
	for _, c := range []struct{ a, b []int }{
		{nil, nil},
		{nil, one},
		{one, nil},
		{[]int{}, one},
		{one, []int{}},
		{times(21, 1), one},
		{one, times(21, 1)},
		{times(20, 1), times(21, 1)},
		{times(21, 1), times(20, 1)},
		{times(21, 1), nil},
		{nil, times(21, 1)},
		{times(100000, 1), times(100000, 1)},
	} {
		wins, ties, losses, e := dice.Duel(c.a, c.b)
		if wins != 0 || ties != 0 || losses != 0 || e != api.ErrRange {
			t.Errorf("Duel of %d and %d sides = %d, %d, %d, %d; want %d", len(c.a), len(c.b), wins, ties, losses, e, api.ErrRange)
		}
	}
}

// P6.4

func TestExploding(t *testing.T) {
	for _, c := range []struct {
		sides, deep int
		want        []int
	}{
		{1, 0, []int{1}},
		{1, 1, []int{0, 1}}, // its one side is its most
		{1, 4, []int{0, 0, 0, 0, 1}},
		{2, 0, []int{1, 1}},
		{2, 1, []int{2, 0, 1, 1}},
		{2, 2, []int{4, 0, 2, 0, 1, 1}},
		{2, 4, []int{16, 0, 8, 0, 4, 0, 2, 0, 1, 1}},
		{3, 1, []int{3, 3, 0, 1, 1, 1}},
		{3, 2, []int{9, 9, 0, 3, 3, 0, 1, 1, 1}},
		{6, 0, []int{1, 1, 1, 1, 1, 1}}, // not thrown again
		{6, 1, []int{6, 6, 6, 6, 6, 0, 1, 1, 1, 1, 1, 1}},
		{20, 0, times(20, 1)},
	} {
		if l, e := dice.Exploding(c.sides, c.deep); !slices.Equal(l, c.want) || e != api.OK {
			t.Errorf("Exploding(%d, %d) = %v, %d; want %v", c.sides, c.deep, l, e, c.want)
		}
	}
}

func TestExplodingOfAll(t *testing.T) {
	for sides := 1; sides <= 20; sides++ {
		for deep := range 5 {
			all := product(times(deep+1, sides))
			want, fault := plainExploding(sides, deep), api.OK
			if total(want) != all {
				t.Fatalf("%d sides, %d times more: the test is wrong", sides, deep)
			}
			if all > 100000 {
				want, fault = nil, api.ErrCount
			}
			if l, e := dice.Exploding(sides, deep); !slices.Equal(l, want) || e != fault {
				t.Errorf("Exploding(%d, %d) = %v, %d; want %v, %d", sides, deep, l, e, want, fault)
			}
		}
	}
}

func TestExplodingRefuses(t *testing.T) {
	for _, c := range []struct {
		sides, deep int
		want        api.Errno
	}{
		{0, 0, api.ErrRange},
		{-1, 0, api.ErrRange},
		{21, 0, api.ErrRange},
		{math.MinInt, 0, api.ErrRange},
		{math.MaxInt, 0, api.ErrRange},
		{0, -1, api.ErrRange}, // ahead of the count
		{21, 5, api.ErrRange},
		{21, 4, api.ErrRange},
		{math.MaxInt, math.MaxInt, api.ErrRange},
		{1, -1, api.ErrCount},
		{1, 5, api.ErrCount},
		{6, -1, api.ErrCount},
		{6, 5, api.ErrCount},
		{1, math.MinInt, api.ErrCount},
		{1, math.MaxInt, api.ErrCount},
		{20, math.MaxInt, api.ErrCount},
		{11, 4, api.ErrCount}, // too many ways
		{20, 4, api.ErrCount},
		{18, 3, api.ErrCount},
	} {
		if l, e := dice.Exploding(c.sides, c.deep); len(l) != 0 || e != c.want {
			t.Errorf("Exploding(%d, %d) = %v, %d; want %d", c.sides, c.deep, l, e, c.want)
		}
	}
	if l, e := dice.Exploding(10, 4); len(l) != 50 || total(l) != 100000 || e != api.OK {
		t.Errorf("Exploding(10, 4) = %v, %d: just as many ways as may be", l, e)
	}
}

// What holds everywhere

func TestWhatIsHandedInStays(t *testing.T) {
	for _, before := range [][]int{nil, {6}, {6, 4, 1}, {3, 2, 9, 9, 1, 20}, {0, 5}, {21, 3}, times(10, 20), times(11, 3), times(21, 3)} {
		l, other := roomy(before), roomy([]int{4, 3, 9})
		dice.Sums(l)
		untouched(t, "Sums", l, before)
		dice.Duel(l, other)
		untouched(t, "Duel", l, before)
		untouched(t, "Duel", other, []int{4, 3, 9})
		dice.Duel(other, l)
		untouched(t, "Duel", l, before)
		untouched(t, "Duel", other, []int{4, 3, 9})
		dice.Duel(l, l)
		untouched(t, "Duel", l, before)
	}
}

func TestAnswersShareNothing(t *testing.T) {
	for _, ask := range []func(l []int) []int{
		func(l []int) []int { r, _ := dice.Sums(l); return r },
		func([]int) []int { r, _ := dice.Sums([]int{1}); return r },
		func([]int) []int { r, _ := dice.Keep(3, 4, 2); return r },
		func([]int) []int { r, _ := dice.Keep(1, 1, 1); return r },
		func([]int) []int { r, _ := dice.Exploding(4, 2); return r },
		func([]int) []int { r, _ := dice.Exploding(1, 0); return r },
	} {
		before := []int{6, 4, 1}
		l := roomy(before)
		first := ask(l)
		kept := slices.Clone(first)
		second := ask(l)
		scribble(second)
		untouched(t, "an answer", l, before)
		if len(kept) == 0 || !slices.Equal(first, kept) {
			t.Errorf("two answers share memory: %v, was %v", first, kept)
		}
		scribble(l)
		if !slices.Equal(first, kept) {
			t.Errorf("an answer shares memory with what was handed in: %v, was %v", first, kept)
		}
		if again := ask(roomy(before)); !slices.Equal(again, kept) {
			t.Errorf("not the same again: %v, was %v", again, kept)
		}
	}
}
