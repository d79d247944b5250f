package positions_test

import (
	"slices"
	"testing"

	"gameroom/api"
	"gameroom/chess"
	"gameroom/positions"
)

// Positions that several tests ask for.
const (
	begin   = "rnbqkbnr/pppppppp/8/8/8/8/PPPPPPPP/RNBQKBNR w KQkq - 0 1"
	rooks   = "r3k2r/8/8/8/8/8/8/R3K2R b KQkq - 999 999"
	passing = "4k3/8/8/3pP3/8/8/8/4K3 w - d6 0 2"
	ahead   = "3n3k/4P3/8/8/8/8/8/4K3 w - - 7 31" // of the last rank
	check   = "7k/8/8/8/8/8/8/K6R b - - 0 1"
	mate    = "1k5R/8/1K6/8/8/8/8/8 b - - 0 1"
	stuck   = "5k2/5P2/5K2/8/8/8/8/8 b - - 0 1"
)

func given(t *testing.T, fen string) api.Chess {
	t.Helper()
	p, e := chess.Read(fen)
	if e != api.OK {
		t.Fatalf("%q: %d", fen, e)
	}
	return p
}

func of(t *testing.T, fen string) positions.Position {
	t.Helper()
	return positions.Of(given(t, fen))
}

// move by a word: e2e4, e7e8n.
func move(word string) api.Move {
	at := func(name string) int { return int(name[0]-'a') + 8*int(name[1]-'1') }
	m := api.Move{From: at(word[:2]), To: at(word[2:4])}
	if len(word) > 4 {
		m.Into = slices.Index([]string{"", "p", "n", "b", "r", "q"}, word[4:])
	}
	return m
}

func TestToldIsWhatWasGiven(t *testing.T) {
	for _, fen := range []string{begin, rooks, passing, ahead, check, mate, stuck} {
		c := given(t, fen)
		p := positions.Of(c)
		c.Places[20] = 5 // it must not be kept
		told := p.Told()
		if text, e := chess.Show(told); text != fen || e != api.OK {
			t.Errorf("%q: told %q, %d", fen, text, e)
		}
		told.Places[20] = 5
		if text, e := chess.Show(p.Told()); text != fen || e != api.OK {
			t.Errorf("%q: told again %q, %d", fen, text, e)
		}
	}
}

func TestMovesComeInOrder(t *testing.T) {
	for _, c := range []struct {
		fen   string
		many  int
		first string
	}{
		{begin, 20, "b1a3"}, {rooks, 26, "a8a1"}, {passing, 7, "e1d1"}, {ahead, 13, "e1d1"}, {check, 2, "h8g7"}, {mate, 0, ""}, {stuck, 0, ""},
	} {
		p := of(t, c.fen)
		l := slices.Collect(p.Moves())
		if len(l) != c.many || len(l) > 0 && l[0] != move(c.first) {
			t.Errorf("%q: %d moves, %v; want %d, the first of them %s", c.fen, len(l), l, c.many, c.first)
		}
		n := 0
		for m := range p.Moves() {
			if n++; m != l[0] {
				t.Errorf("%q: goes on though nothing more is asked for: %v", c.fen, m)
			}
			break
		}
		if n != min(1, c.many) {
			t.Errorf("%q: begins %d times", c.fen, n)
		}
	}
}

func TestAfterLeavesWhatWasAhead(t *testing.T) {
	for _, c := range []struct{ fen, word, want string }{
		{begin, "e2e4", "rnbqkbnr/pppppppp/8/8/4P3/8/PPPP1PPP/RNBQKBNR b KQkq e3 0 1"},
		{begin, "g1f3", "rnbqkbnr/pppppppp/8/8/8/5N2/PPPPPPPP/RNBQKB1R b KQkq - 1 1"},
		{rooks, "e8c8", "2kr3r/8/8/8/8/8/8/R3K2R w KQ - 999 999"},
		{rooks, "h8h1", "r3k3/8/8/8/8/8/8/R3K2r w Qq - 0 999"},
		{passing, "e5d6", "4k3/8/3P4/8/8/8/8/4K3 b - - 0 2"},
		{ahead, "e7d8r", "3R3k/8/8/8/8/8/8/4K3 b - - 0 31"},
		{ahead, "e1e2", "3n3k/4P3/8/8/8/8/4K3/8 b - - 8 31"},
	} {
		p := of(t, c.fen)
		next := p.After(move(c.word))
		if text, e := chess.Show(next.Told()); text != c.want || e != api.OK {
			t.Errorf("%q, %s: %q, %d; want %q", c.fen, c.word, text, e, c.want)
		}
		if text, e := chess.Show(p.Told()); text != c.fen || e != api.OK {
			t.Errorf("%q, %s: the one ahead is %q, %d now", c.fen, c.word, text, e)
		}
	}
}

func TestWhatComesOfIt(t *testing.T) {
	for _, c := range []struct {
		fen                         string
		check, move, mated, nowhere bool
	}{
		{begin, false, true, false, false},
		{check, true, true, false, false},
		{mate, true, false, true, false},
		{stuck, false, false, false, true},
	} {
		p := of(t, c.fen)
		if p.InCheck() != c.check || p.CanMove() != c.move || p.Mated() != c.mated || p.Stuck() != c.nowhere {
			t.Errorf("%q: check %v, moves %v, mated %v, stuck %v", c.fen, p.InCheck(), p.CanMove(), p.Mated(), p.Stuck())
		}
	}
}

func TestHas(t *testing.T) {
	for _, c := range []struct {
		fen, word      string
		has, inPassing bool
	}{
		{begin, "e2e4", true, false}, {begin, "e2e5", false, false}, {begin, "e7e5", false, false},
		{passing, "e5d6", true, true}, {passing, "e5e6", true, false}, {passing, "e1d2", true, false},
		{ahead, "e7e8", false, false}, {ahead, "e7e8q", true, false}, {ahead, "e7e8p", false, false},
	} {
		p := of(t, c.fen)
		if has, taken := p.Has(move(c.word)), p.TakesPassed(move(c.word)); has != c.has || taken != c.inPassing {
			t.Errorf("%q, %s: %v, in passing %v", c.fen, c.word, has, taken)
		}
	}
}
