package pieces_test

import (
	"math"
	"slices"
	"strings"
	"testing"

	"gameroom/api"
	"gameroom/pieces"
)

// at: the place of a name.
func at(name string) int { return int(name[0]-'a') + 8*int(name[1]-'1') }

// atAll: the places of names, rising.
func atAll(names string) []int {
	var l []int
	for name := range strings.FieldsSeq(names) {
		l = append(l, at(name))
	}
	slices.Sort(l)
	return l
}

// places with pieces on them: Ke1 for white's king, ke8 for black's.
func places(words string) []int {
	l := make([]int, pieces.Places)
	for word := range strings.FieldsSeq(words) {
		piece := strings.Index(" PNBRQK", word[:1])
		if piece < 0 {
			piece = -strings.Index(" pnbrqk", word[:1])
		}
		l[at(word[1:])] = piece
	}
	return l
}

func TestCastlings(t *testing.T) {
	for i, c := range []struct {
		side           int
		king, rook     string
		over, to       string
		between, whose string
	}{
		{api.White, "e1", "h1", "f1", "g1", "f1 g1", "white, short"},
		{api.White, "e1", "a1", "d1", "c1", "b1 c1 d1", "white, long"},
		{api.Black, "e8", "h8", "f8", "g8", "f8 g8", "black, short"},
		{api.Black, "e8", "a8", "d8", "c8", "b8 c8 d8", "black, long"},
	} {
		x := pieces.Castlings()[i]
		if x.Side != c.side || x.King != at(c.king) || x.Rook != at(c.rook) {
			t.Errorf("%s: %v", c.whose, x)
		}
		if x.Over() != at(c.over) || x.To() != at(c.to) {
			t.Errorf("%s: over %d, to %d", c.whose, x.Over(), x.To())
		}
		if l := slices.Sorted(x.Between()); !slices.Equal(l, atAll(c.between)) {
			t.Errorf("%s: between %v", c.whose, l)
		}
		for place := range x.Between() {
			if place != x.Over() {
				t.Errorf("%s: goes on though nothing more is asked for: %d", c.whose, place)
			}
			break
		}
	}
}

func TestSides(t *testing.T) {
	for _, c := range []struct {
		side int
		want bool
	}{{math.MinInt, false}, {-1, false}, {0, true}, {1, true}, {2, false}, {math.MaxInt, false}} {
		if ok := pieces.IsSide(c.side); ok != c.want {
			t.Errorf("IsSide(%d) = %v", c.side, ok)
		}
	}
	if a, b := pieces.Other(api.White), pieces.Other(api.Black); a != api.Black || b != api.White {
		t.Errorf("others: %d, %d", a, b)
	}
	if a, b := pieces.Forward(api.White), pieces.Forward(api.Black); a != 8 || b != -8 {
		t.Errorf("forward: %d, %d", a, b)
	}
}

func TestKinds(t *testing.T) {
	for kind := api.Pawn; kind <= api.King; kind++ {
		if white, black := pieces.Of(api.White, kind), pieces.Of(api.Black, kind); white != kind || black != -kind {
			t.Errorf("pieces of kind %d: %d, %d", kind, white, black)
		}
		if white, black := pieces.Kind(kind), pieces.Kind(-kind); white != kind || black != kind {
			t.Errorf("kinds of %d and %d: %d, %d", kind, -kind, white, black)
		}
	}
	if kind := pieces.Kind(0); kind != 0 {
		t.Errorf("kind of nothing: %d", kind)
	}
}

func TestReach(t *testing.T) {
	l := places("Pd6 pf4 Nb2 qd2")
	empty := func(place int) bool { return l[place] == 0 }
	for _, c := range []struct {
		piece      int
		from, want string
	}{
		{api.Pawn, "d4", "c5 e5"},
		{-api.Pawn, "d4", "c3 e3"},
		{api.Pawn, "a4", "b5"},
		{-api.Pawn, "h4", "g3"},
		{api.Pawn, "d8", ""},
		{api.Knight, "d4", "b3 b5 c2 c6 e2 e6 f3 f5"},
		{-api.Knight, "a1", "b3 c2"},
		{api.Bishop, "d4", "a7 b2 b6 c3 c5 e3 e5 f2 f6 g1 g7 h8"},
		{-api.Rook, "d4", "a4 b4 c4 d2 d3 d5 d6 e4 f4"},
		{api.Queen, "d4", "a7 b2 b6 c3 c5 e3 e5 f2 f6 g1 g7 h8 a4 b4 c4 d2 d3 d5 d6 e4 f4"},
		{api.King, "d4", "c3 c4 c5 d3 d5 e3 e4 e5"},
		{-api.King, "h8", "g7 g8 h7"},
	} {
		reached := slices.Sorted(pieces.Reach(c.piece, at(c.from), empty))
		if !slices.Equal(reached, atAll(c.want)) {
			t.Errorf("Reach(%d, %s) = %v; want %v", c.piece, c.from, reached, atAll(c.want))
		}
	}
	n := 0
	for range pieces.Reach(api.Queen, at("d4"), empty) {
		n++
		break
	}
	if n != 1 {
		t.Errorf("goes on though nothing more is asked for: %d", n)
	}
}

func TestReachOn(t *testing.T) {
	for _, c := range []struct {
		wide, piece, from, full int
		want                    []int
	}{
		{3, api.King, 0, -1, []int{1, 3, 4}},
		{3, api.King, 4, -1, []int{0, 1, 2, 3, 5, 6, 7, 8}},
		{3, api.King, 5, -1, []int{1, 2, 4, 7, 8}},
		{3, api.Rook, 2, -1, []int{0, 1, 5, 8}},
		{3, api.Rook, 2, 1, []int{1, 5, 8}},
		{3, api.Queen, 6, 4, []int{0, 3, 4, 7, 8}},
		{4, api.Bishop, 5, 10, []int{0, 2, 8, 10}},
		{4, api.Knight, 5, -1, []int{3, 11, 12, 14}},
		{5, api.Rook, 12, 11, []int{2, 7, 11, 13, 14, 17, 22}},
		{5, api.Queen, 20, 8, []int{0, 5, 8, 10, 12, 15, 16, 21, 22, 23, 24}},
		{5, -api.Pawn, 9, -1, []int{3}},
	} {
		empty := func(place int) bool { return place != c.full }
		reached := slices.Sorted(pieces.ReachOn(c.wide, c.piece, c.from, empty))
		if !slices.Equal(reached, c.want) {
			t.Errorf("ReachOn(%d, %d, %d), %d full: %v; want %v", c.wide, c.piece, c.from, c.full, reached, c.want)
		}
	}
}

func TestAttackers(t *testing.T) {
	l := places("Kc5 ka8 Qh8 Rd8 Bg7 Nb3 Pc3 Pe3 rh4 ph2 pd2")
	for _, c := range []struct {
		at   string
		by   int
		want string
	}{
		{"d4", api.White, "b3 c3 e3 c5 g7 d8"},
		{"d4", api.Black, "h4"},
		{"g1", api.Black, "h2"},
		{"e1", api.Black, "d2"},
		{"a8", api.White, "d8"},
		{"a2", api.White, ""},
	} {
		from := slices.Sorted(pieces.Attackers(l, at(c.at), c.by))
		if !slices.Equal(from, atAll(c.want)) {
			t.Errorf("Attackers(%s, %d) = %v; want %v", c.at, c.by, from, atAll(c.want))
		}
		if attacked := pieces.Attacked(l, at(c.at), c.by); attacked != (c.want != "") {
			t.Errorf("Attacked(%s, %d) = %v", c.at, c.by, attacked)
		}
	}
}

func TestInCheck(t *testing.T) {
	for _, c := range []struct {
		words        string
		white, black bool
	}{
		{"Ka1 kh8", false, false},
		{"Ka1 kh8 ra5", true, false},
		{"Ka1 kh8 Rb8", false, true},
		{"Ka1 kh8 ra5 Rb8", true, true},
		{"Ka1 kh8 ra5 Pa2", false, false},
		{"Ka1 kb2", true, true},
	} {
		l := places(c.words)
		white, black := pieces.InCheck(l, api.White), pieces.InCheck(l, api.Black)
		if white != c.white || black != c.black {
			t.Errorf("%s: %v, %v", c.words, white, black)
		}
	}
}
