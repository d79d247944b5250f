package problems_test

import (
	"fmt"
	"math"
	"slices"
	"strings"
	"sync"
	"testing"

	"gameroom/api"
	"gameroom/chess"
	"gameroom/moves"
	"gameroom/problems"
)

// strange numbers: the ends of what there is, and some that look right in fewer bits.
func strange() []int {
	return []int{math.MinInt, math.MinInt + 1, -1 << 32, -1 << 31, 1 << 31, 1 << 32, 1<<32 + 1, math.MaxInt - 1, math.MaxInt}
}

// mayBe: the test's own positions must be such that may be.
func mayBe(t *testing.T, what string, p api.Chess) {
	t.Helper()
	if !chess.May(p) {
		t.Fatalf("%s: such a position may not be", what)
	}
}

// room for so many rows as a plain search may take.
const room = 2000

// P18.1

// fool is to be mated.
const fool = "rnbqkbnr/pppp1ppp/8/4p3/6P1/5P2/PPPPP2P/RNBQKBNR b KQkq g3 0 2"

func TestMate(t *testing.T) {
	for _, c := range []struct {
		what   string
		p      api.Chess
		moves  int
		firsts string
	}{
		{"the example", of(0, "Kb6 Rh1 kb8"), 1, "h1h8"},
		{"the fool's", positionOf(t, fool), 1, "d8h4"},
		{"behind its own pawns", of(0, "Kg1 Ra1 kg8 pf7 pg7 ph7"), 1, "a1a8"},
		{"by a knight among its own", of(0, "Ka1 Ne5 kh8 rg8 ph7 pg7"), 1, "e5f7"},
		{"by one of two", of(0, "Kb6 Rh1 Rg2 kb8"), 1, "h1h8 g2g8"},
		{"by a pawn, or what another one becomes", of(0, "Kh6 Pg6 Pf7 kh8"), 1, "g6g7 f7f8r f7f8q"},
		{"a pawn becomes a knight", of(0, "Kg5 Pf7 kh7 rh8 bg8 pg7"), 1, "f7f8n"},
		{"in passing", withPassed(of(0, "Kg3 Ra5 Rf6 Pe5 kh5 pd5"), "d6"), 1, "e5d6"},
		{"not in passing", of(0, "Kg3 Ra5 Rf6 Pe5 kh5 pd5"), 0, ""},
		{"by castling, or a rook", withCastle(of(0, "Ke1 Rh1 Pg2 Ra7 Be6 kf8 re8 rg8"), 1), 1, "e1g1 h1f1 a7f7"},
		{"castling may not be", of(0, "Ke1 Rh1 Pg2 Ra7 Be6 kf8 re8 rg8"), 1, "h1f1 a7f7"},
		{"out of check", of(0, "Kb6 Rh1 kb8 ra6"), 0, ""},
		{"two rooks, rank by rank", of(0, "Kh1 Ra6 Rb5 ke7"), 2, "b5b7"},
		{"by a queen that is given", of(0, "Kg1 Qb3 Nh6 kh8 rf8 ra8 pg7 ph7"), 2, "b3g8"},
		{"the other has one way", of(0, "Kc6 Rh1 kb8"), 2, "h1a1"},
		{"with one of two", of(0, "Kc6 Rh1 ka8"), 2, "c6b6 c6c7"},
		{"a pawn becomes a queen, then she mates", of(0, "Kc7 Pb7 ka7"), 2, "b7b8q"},
		{"a pawn becomes a rook, lest the other be stuck", of(0, "Kc6 Pc7 ka7"), 2, "c7c8r"},
		{"the other would just be stuck", of(0, "Ke6 Pf7 kf8"), 0, ""},
		{"mated itself", of(0, "Ka1 ra8 rb8 kh8"), 0, ""},
		{"stuck itself", of(0, "Ka1 rb8 rh2 kh8"), 0, ""},
		{"the other would mate", of(1, "Kb6 Rh1 kb8"), 0, ""},
		{"nobody can mate", of(0, "Kc6 Bd5 ka7"), 0, ""},
		{"the beginning", chess.New(), 0, ""},
	} {
		mayBe(t, c.what, c.p)
		firsts := row(c.firsts)
		if n, l, e := problems.Mate(c.p, 2); n != c.moves || !slices.Equal(l, firsts) || e != api.OK {
			t.Errorf("%s: %d, %v, %d; want %d, %v", c.what, n, l, e, c.moves, firsts)
		}
		if n, l, e := problems.Mate(mirrored(c.p), 2); n != c.moves || !slices.Equal(mirroredMoves(l), firsts) || e != api.OK {
			t.Errorf("%s, mirrored: %d, %v, %d; want %d, %v", c.what, n, l, e, c.moves, firsts)
		}
		soon := c.moves
		if soon > 1 {
			soon, firsts = 0, nil
		}
		if n, l, e := problems.Mate(c.p, 1); n != soon || !slices.Equal(l, firsts) || e != api.OK {
			t.Errorf("%s, at once: %d, %v, %d; want %d, %v", c.what, n, l, e, soon, firsts)
		}
	}
}

// What is drawn by half moves alone is no end: only what may be done counts.
func TestMateBehindManyHalfMoves(t *testing.T) {
	for _, half := range []int{0, 97, 98, 99, 100, 101, 998, 999} {
		if n, l, e := problems.Mate(withHalf(of(0, "Kb6 Rh1 kb8"), half), 1); n != 1 || !slices.Equal(l, row("h1h8")) || e != api.OK {
			t.Errorf("in one, %d half moves: %d, %v, %d", half, n, l, e)
		}
		if n, l, e := problems.Mate(withHalf(of(0, "Kc6 Rh1 kb8"), half), 2); n != 2 || !slices.Equal(l, row("h1a1")) || e != api.OK {
			t.Errorf("in two, %d half moves: %d, %v, %d", half, n, l, e)
		}
	}
}

func TestMateOfMany(t *testing.T) {
	d := die(181)
	var seen [3]int
	several := 0
	for i := range 600 {
		p := d.any()
		if i%2 == 0 {
			p = d.hunted()
		}
		for most := 1; most <= 2; most++ {
			if n, _ := moves.Count(p, 2*most-1); n > room {
				break
			}
			want, firsts := plainMate(p, most)
			n, l, e := problems.Mate(p, most)
			if n != want || !slices.Equal(l, firsts) || e != api.OK {
				t.Fatalf("Mate(%v, %d) = %d, %v, %d; want %d, %v", p, most, n, l, e, want, firsts)
			}
			turned, back, e := problems.Mate(mirrored(p), most)
			if turned != want || !slices.Equal(mirroredMoves(back), firsts) || e != api.OK {
				t.Fatalf("Mate(%v, %d), mirrored: %d, %v, %d; want %d, %v", p, most, turned, back, e, want, firsts)
			}
			seen[n]++
			if n == 2 && len(l) > 1 {
				several++
			}
		}
	}
	if slices.Min(seen[:]) < 30 || several < 15 {
		t.Errorf("of the numbers of moves there were %v, with several first moves of two %d", seen, several)
	}
}

func TestMateRefuses(t *testing.T) {
	for _, most := range append(strange(), -1, 0, 3, 4, 100) {
		if n, l, e := problems.Mate(of(0, "Kb6 Rh1 kb8"), most); n != 0 || len(l) != 0 || e != api.ErrRange {
			t.Errorf("Mate(%d) = %d, %v, %d", most, n, l, e)
		}
	}
}

// P18.2

func TestRows(t *testing.T) {
	for _, c := range []struct {
		what         string
		p            api.Chess
		mated, stuck [4]int
	}{
		{"the beginning", chess.New(), [4]int{}, [4]int{}},
		{"a middle", positionOf(t, known[1]), [4]int{0, 0, 0, 1}, [4]int{}},
		{"another middle", positionOf(t, known[3]), [4]int{0, 0, 0, 22}, [4]int{}},
		{"an end", positionOf(t, known[2]), [4]int{}, [4]int{}},
		{"the fool's, one move ahead of it", positionOf(t, fool), [4]int{0, 1, 0, -1}, [4]int{0, 0, 0, -1}},
		{"the fool's, three moves ahead of it", positionOf(t, "rnbqkbnr/pppppppp/8/8/6P1/8/PPPPPP1P/RNBQKBNR b KQkq g3 0 1"), [4]int{0, 0, 0, 4}, [4]int{}},
		{"mate", of(1, "Kb6 Rh8 kb8"), [4]int{1, 0, 0, 0}, [4]int{}},
		{"mate behind many half moves", withHalf(of(1, "Kb6 Rh8 kb8"), 999), [4]int{1, 0, 0, 0}, [4]int{}},
		{"one move ahead of mate", of(0, "Kb6 Rh1 kb8"), [4]int{0, 1, -1, -1}, [4]int{0, 0, -1, -1}},
		{"one move ahead of it behind 99 half moves", withHalf(of(0, "Kb6 Rh1 kb8"), 99), [4]int{0, 1, -1, -1}, [4]int{0, 0, -1, -1}},
		{"the only way to it", of(1, "Kb6 Rh1 ka8"), [4]int{0, 0, 1, 0}, [4]int{}},
		{"a pawn becomes one of two", of(0, "Kb6 Pc7 ka8"), [4]int{0, 2, -1, -1}, [4]int{0, 1, -1, -1}},
		{"stuck", of(1, "Kf6 Pf7 kf8"), [4]int{}, [4]int{1, 0, 0, 0}},
		{"stuck by a bishop, which cannot mate", of(1, "Kb6 Bc7 ka8"), [4]int{}, [4]int{1, 0, 0, 0}},
		{"stuck behind many half moves", withHalf(of(1, "Kf6 Pf7 kf8"), 999), [4]int{}, [4]int{1, 0, 0, 0}},
		{"one move ahead of it", of(0, "Ke6 Pf7 kf8"), [4]int{0, 0, -1, -1}, [4]int{0, 1, -1, -1}},
		{"kings alone", of(0, "Ka1 kh8"), [4]int{}, [4]int{}},
		{"check alone", of(0, "Ka1 ra8 kh8"), [4]int{0, 0, 0, -1}, [4]int{0, 0, 0, -1}},
	} {
		mayBe(t, c.what, c.p)
		for _, p := range []api.Chess{c.p, mirrored(c.p)} {
			for plies := range 4 {
				if want := c.mated[plies]; want >= 0 {
					if n, e := problems.Rows(p, plies, 1); n != want || e != api.OK {
						t.Errorf("%s: Rows(%d, 1) = %d, %d; want %d", c.what, plies, n, e, want)
					}
				}
				if want := c.stuck[plies]; want >= 0 {
					if n, e := problems.Rows(p, plies, 2); n != want || e != api.OK {
						t.Errorf("%s: Rows(%d, 2) = %d, %d; want %d", c.what, plies, n, e, want)
					}
				}
			}
		}
	}
}

// From the beginning there are eight rows of four moves that mate.
func TestRowsOfFour(t *testing.T) {
	n := 0
	may, _ := moves.All(chess.New())
	for _, m := range may {
		p, _ := moves.Do(chess.New(), m)
		mated, e := problems.Rows(p, 3, 1)
		if e != api.OK {
			t.Errorf("behind %v: %d", m, e)
		}
		n += mated
	}
	if n != 8 {
		t.Errorf("%d rows", n)
	}
}

func TestRowsOfMany(t *testing.T) {
	d := die(182)
	var mated, stuck [4]int
	for range 350 {
		p := d.any()
		for plies := range 4 {
			if n, _ := moves.Count(p, plies); n > room {
				break
			}
			wantMated, wantStuck := plainRows(p, plies)
			if n, e := problems.Rows(p, plies, 1); n != wantMated || e != api.OK {
				t.Fatalf("Rows(%v, %d, 1) = %d, %d; want %d", p, plies, n, e, wantMated)
			}
			if n, e := problems.Rows(p, plies, 2); n != wantStuck || e != api.OK {
				t.Fatalf("Rows(%v, %d, 2) = %d, %d; want %d", p, plies, n, e, wantStuck)
			}
			if wantMated > 0 {
				mated[plies]++
			}
			if wantStuck > 0 {
				stuck[plies]++
			}
		}
	}
	if slices.Min(mated[:]) < 3 || slices.Min(stuck[:]) < 3 {
		t.Errorf("there were rows behind which one is mated %v, or stuck %v", mated, stuck)
	}
}

func TestRowsRefuses(t *testing.T) {
	p := of(1, "Kb6 Rh8 kb8")
	for _, plies := range append(strange(), -1, 4, 5, 100) {
		for _, result := range []int{1, 2, 0, 3, 4, math.MinInt} {
			if n, e := problems.Rows(p, plies, result); n != 0 || e != api.ErrRange {
				t.Errorf("Rows(%d, %d) = %d, %d", plies, result, n, e)
			}
		}
	}
	for _, result := range append(strange(), -2, -1, 0, 3, 4, 5) {
		for plies := range 4 {
			if n, e := problems.Rows(p, plies, result); n != 0 || e != api.ErrKind {
				t.Errorf("Rows(%d, %d) = %d, %d", plies, result, n, e)
			}
		}
	}
}

// P18.3

func TestBest(t *testing.T) {
	for _, c := range []struct {
		what  string
		p     api.Chess
		deep  int
		value int
		first string // of several that are as good, the first in order
	}{
		{"the beginning, as it is", chess.New(), 0, 0, ""},
		{"the beginning, one move", chess.New(), 1, 0, "b1a3"},
		{"the beginning, two moves", chess.New(), 2, 0, "b1a3"},
		{"each piece is worth something", of(0, "Ka1 kd8 Pe4 Nd4 Bf4 Rg2 Qh3 pa6 pb6 nc6"), 0, 1 + 3 + 3 + 5 + 9 - 1 - 1 - 3, ""},
		{"the other is ahead", of(1, "Kb6 Rh1 kb8"), 0, -5, ""},
		{"a bishop, which cannot mate, counts all the same", of(0, "Ka1 Bc1 kh8"), 0, 3, ""},
		{"many half moves do not matter", withHalf(of(0, "Ka1 Rc1 kh8"), 999), 0, 5, ""},
		{"many half moves ahead do not matter", withHalf(of(0, "Ka1 Rc2 kh8"), 99), 2, 5, "a1b1"},
		{"mated, as it is", of(1, "Kb6 Rh8 kb8"), 0, -1000, ""},
		{"mated, one move", of(1, "Kb6 Rh8 kb8"), 1, -1000, ""},
		{"mated, two moves", of(1, "Kb6 Rh8 kb8"), 2, -1000, ""},
		{"mated behind many half moves", withHalf(of(1, "Kb6 Rh8 kb8"), 100), 0, -1000, ""},
		{"stuck, as it is", of(1, "Kf6 Pf7 kf8"), 0, 0, ""},
		{"stuck, one move", of(1, "Kf6 Pf7 kf8"), 1, 0, ""},
		{"stuck, two moves", of(1, "Kf6 Pf7 kf8"), 2, 0, ""},
		{"stuck by a bishop", of(1, "Kb6 Bc7 ka8"), 2, 0, ""},
		{"a mate is not seen without a move", of(0, "Kb6 Rh1 kb8"), 0, 5, ""},
		{"a mate, one move", of(0, "Kb6 Rh1 kb8"), 1, 999, "h1h8"},
		{"a mate, two moves", of(0, "Kb6 Rh1 kb8"), 2, 999, "h1h8"},
		{"one mate of two", of(0, "Kb6 Rh1 Rg2 kb8"), 1, 999, "h1h8"},
		{"a pawn becomes what mates", of(0, "Kb6 Pc7 ka8"), 1, 999, "c7c8r"},
		{"a mate, better than a knight", of(0, "Kb6 Rh1 kb8 nd1"), 1, 999, "h1h8"},
		{"it will be mated", of(1, "Kb6 Rh1 ka8"), 2, -998, "a8b8"},
		{"it will be mated, but that is too far to see", of(1, "Kb6 Rh1 ka8"), 1, -5, "a8b8"},
		{"it would be mated, but for a way", of(1, "Kb6 Rh1 kb8"), 2, -5, "b8c8"},
		{"it lets the other not be stuck", of(0, "Ke6 Pf7 kf8"), 1, 1, "e6d5"},
		{"it is behind, and there is nothing to take", of(0, "Ka1 Rg1 kh8 ph7 qc2"), 1, -5, "g1b1"},
		{"it is behind, and had better be stuck", of(0, "Ka1 Rg1 kh8 ph7 qc2"), 2, 0, "g1g8"},
		{"a queen is taken", of(0, "Ka1 Rd1 kh8 qd8"), 1, 5, "d1d8"},
		{"a pawn is taken in passing", withPassed(of(0, "Ka1 Pe5 kh8 pd5"), "d6"), 1, 1, "e5d6"},
		{"a pawn becomes a queen", of(0, "Ka1 Pe7 kh6"), 1, 9, "e7e8q"},
		{"a pawn that is kept is taken, one move", of(0, "Ka1 Qd1 kc8 pd5 pe6"), 1, 8, "d1d5"},
		{"a pawn that is kept is left, two moves", of(0, "Ka1 Qd1 kc8 pd5 pe6"), 2, 7, "a1b1"},
		{"a rook must leave", of(0, "Ka1 Rd4 kh8 pc5"), 2, 4, "d4d1"},
	} {
		mayBe(t, c.what, c.p)
		want := api.Move{}
		if c.first != "" {
			want = move(c.first)
		}
		if value, m, e := problems.Best(c.p, c.deep); value != c.value || m != want || e != api.OK {
			t.Errorf("%s: %d, %v, %d; want %d, %v", c.what, value, m, e, c.value, want)
		}
		if value, _, e := problems.Best(mirrored(c.p), c.deep); value != c.value || e != api.OK {
			t.Errorf("%s, mirrored: %d, %d; want %d", c.what, value, e, c.value)
		}
	}
}

func TestBestOfMany(t *testing.T) {
	d := die(183)
	var mates, mated, stuck, none, ahead int
	for range 500 {
		p := d.any()
		for deep := range 3 {
			if n, _ := moves.Count(p, deep); n > room {
				break
			}
			want, first := plainBest(p, deep)
			value, m, e := problems.Best(p, deep)
			if value != want || m != first || e != api.OK {
				t.Fatalf("Best(%v, %d) = %d, %v, %d; want %d, %v", p, deep, value, m, e, want, first)
			}
			if turned, _, e := problems.Best(mirrored(p), deep); turned != want || e != api.OK {
				t.Fatalf("Best(%v, %d), mirrored: %d, %d; want %d", p, deep, turned, e, want)
			}
			lead, _, _ := chess.Material(p)
			switch {
			case value == 999:
				mates++
			case value == -998:
				mated++
			case value == 0 && m != (api.Move{}) && lead != 0:
				stuck++
			case m == (api.Move{}) && deep > 0:
				none++
			case value != 0 && p.Turn == 1:
				ahead++
			}
		}
	}
	if mates < 20 || mated < 3 || stuck < 5 || none < 5 || ahead < 50 {
		t.Errorf("%d mates, %d times mated, %d nothing though one was ahead, %d without a move, %d of black", mates, mated, stuck, none, ahead)
	}
}

// A mate in one is what Best finds with 999.
func TestBestFindsMates(t *testing.T) {
	d := die(184)
	found := 0
	for range 1500 {
		p := d.hunted()
		n, l, _ := problems.Mate(p, 1)
		for deep := 1; deep <= 2; deep++ {
			value, m, _ := problems.Best(p, deep)
			if (n == 1) != (value == 999) || n == 1 && m != l[0] {
				t.Fatalf("%v: Mate: %d, %v; Best(%d): %d, %v", p, n, l, deep, value, m)
			}
		}
		found += n
	}
	if found < 100 {
		t.Errorf("%d mates in one", found)
	}
}

func TestBestRefuses(t *testing.T) {
	for _, p := range []api.Chess{chess.New(), of(1, "Kb6 Rh8 kb8")} {
		for _, deep := range append(strange(), -2, -1, 3, 4, 100) {
			if value, m, e := problems.Best(p, deep); value != 0 || m != (api.Move{}) || e != api.ErrRange {
				t.Errorf("Best(%d) = %d, %v, %d", deep, value, m, e)
			}
		}
	}
}

// P18.4

// placesOf names, rising.
func placesOf(names string) []int {
	var l []int
	for name := range strings.FieldsSeq(names) {
		l = append(l, at(name))
	}
	slices.Sort(l)
	return l
}

func TestCovered(t *testing.T) {
	for _, c := range []struct{ what, pieces, white, black string }{
		{"kings alone", "Ka1 kg7", "a2 b1 b2", "f6 f7 f8 g6 g8 h6 h7 h8"},
		{"a pawn slanting forward, not straight", "Ka1 kh8 Pd4 pe7", "a2 b1 b2 c5 e5", "d6 f6 g7 g8 h7"},
		{"pawns at the edges", "Kd1 kd8 Pa4 ph4", "c1 c2 d2 e1 e2 b5", "c7 c8 d7 e7 e8 g3"},
		{"a knight, over others", "Ka1 kh8 Nb1 nh6 pg6", "a2 b1 b2 a3 c3 d2", "g7 g8 h7 f5 f7 g4 h5 f5"},
		{"its own pieces, too, and not itself", "Ka1 Bb2 Pc3 kh8", "a2 b1 b2 a1 a3 c1 c3 b4 d4", "g7 g8 h7"},
		{"a rook up to what is in its way", "Ka1 Rd4 Pd6 kh8 nf4", "a2 b1 b2 a4 b4 c4 d1 d2 d3 d5 d6 e4 f4 c7 e7", "g7 g8 h7 d3 d5 e2 e6 g2 g6 h3 h5"},
		{"a queen shut in", "Ka1 Qh1 Bg1 Pg2 Ph2 kb7", "a2 b1 b2 g1 g2 h2 f2 e3 d4 c5 b6 a7 f3 h3 g3", "a6 a7 a8 b6 b8 c6 c7 c8"},
		{"what is bound covers all the same", "Ka1 Na2 ra8 kh8", "a2 b1 b2 b4 c1 c3", "a2 a3 a4 a5 a6 a7 b8 c8 d8 e8 f8 g8 h8 g7 h7"},
		{"the king covers what it may not enter", "Kd4 kd6", "c3 c4 c5 d3 d5 e3 e4 e5", "c5 c6 c7 d5 d7 e5 e6 e7"},
	} {
		p := of(0, c.pieces)
		mayBe(t, c.what, p)
		for by, names := range []string{c.white, c.black} {
			want := slices.Compact(placesOf(names))
			for turn := range 2 {
				p.Turn = turn
				if !chess.May(p) { // the side that is not to move is in check
					continue
				}
				if l, e := problems.Covered(p, by); !slices.Equal(l, want) || e != api.OK {
					t.Errorf("%s: Covered(%d) = %v, %d; want %v", c.what, by, l, e, want)
				}
				if l, e := problems.Covered(mirrored(p), 1-by); !slices.Equal(mirroredPlaces(l), want) || e != api.OK {
					t.Errorf("%s, mirrored: Covered(%d) = %v, %d; want %v", c.what, 1-by, l, e, want)
				}
			}
		}
	}
	white, _ := problems.Covered(chess.New(), 0)
	black, _ := problems.Covered(chess.New(), 1)
	want := placesOf("b1 c1 d1 e1 f1 g1 a2 b2 c2 d2 e2 f2 g2 h2 a3 b3 c3 d3 e3 f3 g3 h3")
	if !slices.Equal(white, want) || !slices.Equal(mirroredPlaces(black), want) {
		t.Errorf("the beginning: %v, %v; want %v, and the same mirrored", white, black, want)
	}
}

// What a pawn could take in passing is not attacked, but what it would come to is.
func TestCoveredInPassing(t *testing.T) {
	p := withPassed(of(0, "Ka1 kh8 Pe5 pd5"), "d6")
	if l, e := problems.Covered(p, 0); !slices.Equal(l, placesOf("a2 b1 b2 d6 f6")) || e != api.OK {
		t.Errorf("%v, %d", l, e)
	}
}

func TestCoveredOfMany(t *testing.T) {
	d := die(185)
	for range 1000 {
		p := d.any()
		for by := range 2 {
			want := plainCovered(p, by)
			if l, e := problems.Covered(p, by); !slices.Equal(l, want) || e != api.OK {
				t.Fatalf("Covered(%v, %d) = %v, %d; want %v", p, by, l, e, want)
			}
			if l, e := problems.Covered(mirrored(p), 1-by); !slices.Equal(mirroredPlaces(l), want) || e != api.OK {
				t.Fatalf("Covered(%v, %d), mirrored: %v, %d; want %v", p, by, l, e, want)
			}
		}
	}
}

func TestCoveredRefuses(t *testing.T) {
	for _, by := range append(strange(), -2, -1, 2, 3) {
		if l, e := problems.Covered(chess.New(), by); len(l) != 0 || e != api.ErrRange {
			t.Errorf("Covered(%d) = %v, %d", by, l, e)
		}
	}
}

// What holds everywhere.

// wrong positions: each may not be.
func wrong() map[string]api.Chess {
	with := func(change func(p *api.Chess)) api.Chess {
		p := chess.New()
		change(&p)
		return p
	}
	return map[string]api.Chess{
		"nothing":               {},
		"no places":             {EnPassant: -1, Full: 1},
		"a place too few":       with(func(p *api.Chess) { p.Places = p.Places[:63] }),
		"a place too many":      with(func(p *api.Chess) { p.Places = append(p.Places, 0) }),
		"a piece too great":     with(func(p *api.Chess) { p.Places[20] = 7 }),
		"a piece far too small": with(func(p *api.Chess) { p.Places[20] = math.MinInt }),
		"no king":               with(func(p *api.Chess) { p.Places[4] = 0 }),
		"two kings":             with(func(p *api.Chess) { p.Places[20] = 6 }),
		"a pawn on the first":   with(func(p *api.Chess) { p.Places[1] = 1 }),
		"the other is in check": with(func(p *api.Chess) { p.Places[at("d7")] = 1 }),
		"castle 16":             with(func(p *api.Chess) { p.Castle = 16 }),
		"castle without rook":   with(func(p *api.Chess) { p.Places[0] = 0 }),
		"passed by nobody":      with(func(p *api.Chess) { p.EnPassant = at("d6") }),
		"passed -2":             with(func(p *api.Chess) { p.EnPassant = -2 }),
		"passed far away":       with(func(p *api.Chess) { p.EnPassant = math.MaxInt }),
		"half 1000":             with(func(p *api.Chess) { p.Half = 1000 }),
		"half below 0":          with(func(p *api.Chess) { p.Half = -1 }),
		"full 0":                with(func(p *api.Chess) { p.Full = 0 }),
		"full 1000":             with(func(p *api.Chess) { p.Full = 1000 }),
		"turn 2":                with(func(p *api.Chess) { p.Turn = 2 }),
		"turn far below 0":      with(func(p *api.Chess) { p.Turn = math.MinInt }),
	}
}

func TestWrongPositionsAreRefused(t *testing.T) {
	numbers := append(strange(), -1, 0, 1, 2, 3, 4)
	for what, p := range wrong() {
		for _, n := range numbers {
			if k, l, e := problems.Mate(p, n); k != 0 || len(l) != 0 || e != api.ErrState {
				t.Errorf("Mate(%d) of %s: %d, %v, %d", n, what, k, l, e)
			}
			for _, result := range numbers {
				if k, e := problems.Rows(p, n, result); k != 0 || e != api.ErrState {
					t.Errorf("Rows(%d, %d) of %s: %d, %d", n, result, what, k, e)
				}
			}
			if value, m, e := problems.Best(p, n); value != 0 || m != (api.Move{}) || e != api.ErrState {
				t.Errorf("Best(%d) of %s: %d, %v, %d", n, what, value, m, e)
			}
			if l, e := problems.Covered(p, n); len(l) != 0 || e != api.ErrState {
				t.Errorf("Covered(%d) of %s: %v, %d", n, what, l, e)
			}
		}
	}
}

// ask all that can be asked of a position.
func ask(p api.Chess) string {
	var text strings.Builder
	for n := range 3 {
		k, l, e := problems.Mate(p, n)
		mated, f := problems.Rows(p, n, 1)
		stuck, g := problems.Rows(p, n, 2)
		value, m, h := problems.Best(p, n)
		covered, i := problems.Covered(p, n)
		text.WriteString(fmt.Sprintln(k, l, e, mated, f, stuck, g, value, m, h, covered, i))
	}
	return text.String()
}

const spare = -77

func TestListsAreLeftAlone(t *testing.T) {
	d := die(186)
	look := func(p api.Chess) {
		before := slices.Clone(p.Places)
		places := append(slices.Clone(p.Places), slices.Repeat([]int{spare}, 8)...)
		p.Places = places[:len(before)]
		ask(p)
		if !slices.Equal(places, append(before, slices.Repeat([]int{spare}, 8)...)) {
			t.Errorf("a call changed the places that were handed in, or their spare room: %v", places)
		}
	}
	for range 60 {
		look(d.any())
	}
	for _, p := range wrong() {
		look(p)
	}
}

// scribble overwrites a list and its spare room.
func scribble[E any](l []E, with E) {
	l = l[:cap(l)]
	for i := range l {
		l[i] = with
	}
}

func TestAnswersAreNew(t *testing.T) {
	all := func() string {
		_, inOne, _ := problems.Mate(of(0, "Kh6 Pg6 Pf7 kh8"), 2)
		_, inTwo, _ := problems.Mate(of(0, "Kc6 Rh1 ka8"), 2)
		white, _ := problems.Covered(chess.New(), 0)
		black, _ := problems.Covered(chess.New(), 1)
		told := fmt.Sprint(inOne, inTwo, white, black)
		scribble(inOne, api.Move{From: spare})
		scribble(inTwo, api.Move{From: spare})
		scribble(white, spare)
		scribble(black, spare)
		return told
	}
	if a, b := all(), all(); a != b {
		t.Errorf("asked again: %s, then %s", a, b)
	}
}

// A position that is changed while it is looked at, and then put right, is seen by others that look at it meanwhile.
func TestManyLookAtOnePosition(t *testing.T) {
	p := positionOf(t, known[3])
	want := ask(p)
	var told [8]string
	var group sync.WaitGroup
	for i := range told {
		group.Go(func() { told[i] = ask(p) + ask(p) })
	}
	group.Wait()
	for _, text := range told {
		if text != want+want {
			t.Fatalf("told %s; want %s twice", text, want)
		}
	}
}
