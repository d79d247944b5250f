package moves_test

import (
	"fmt"
	"slices"
	"strings"
	"sync"
	"testing"

	"gameroom/api"
	"gameroom/chess"
	"gameroom/moves"
)

// P16.1

func TestAllOfTheBeginning(t *testing.T) {
	l, e := moves.All(chess.New())
	want := row("b1a3 b1c3 g1f3 g1h3 a2a3 a2a4 b2b3 b2b4 c2c3 c2c4 d2d3 d2d4 e2e3 e2e4 f2f3 f2f4 g2g3 g2g4 h2h3 h2h4")
	if !slices.Equal(l, want) || e != api.OK {
		t.Errorf("All(New()) = %v, %d; want %v", l, e, want)
	}
	if len(l) != 20 || l[0] != (api.Move{From: 1, To: 16}) {
		t.Errorf("%d moves: %v", len(l), l)
	}
}

// every: all moves of a position; those of the mirrored one must be the same, mirrored.
func every(t *testing.T, what string, p api.Chess) []api.Move {
	t.Helper()
	if !chess.May(p) {
		t.Fatalf("%s: such a position may not be", what)
	}
	l, e := moves.All(p)
	turned, f := moves.All(mirrored(p))
	if e != api.OK || f != api.OK || !slices.Equal(mirroredMoves(turned), l) {
		t.Errorf("%s: %v, %d; mirrored: %v, %d", what, l, e, turned, f)
	}
	return l
}

// from: those moves that begin on a place.
func from(l []api.Move, place string) []api.Move {
	return slices.DeleteFunc(slices.Clone(l), func(m api.Move) bool { return m.From != at(place) })
}

// targets: moves from a place to others, in order.
func targets(place, names string) []api.Move {
	var l []api.Move
	for name := range strings.FieldsSeq(names) {
		l = append(l, move(place+name))
	}
	slices.SortFunc(l, inOrder)
	return l
}

func TestAllOfOnePiece(t *testing.T) {
	for _, c := range []struct{ what, pieces, from, want string }{
		{"a knight", "Ka1 kh8 Nd4", "d4", "b3 b5 c2 c6 e2 e6 f3 f5"},
		{"a knight in a corner", "Kd1 kd8 Nh1", "h1", "f2 g3"},
		{"a knight over others", "Ka1 kh8 Nd4 Pc4 Pc5 Pd5 Pe5 pe4 pe3 pd3 Pc3", "d4", "b3 b5 c2 c6 e2 e6 f3 f5"},
		{"a knight, not on its own", "Ka1 kh8 Nd4 Pb3 pb5 Bc2 nc6", "d4", "b5 c6 e2 e6 f3 f5"},
		{"a bishop", "Kb1 kh7 Bd4", "d4", "a1 b2 c3 a7 b6 c5 e3 f2 g1 e5 f6 g7 h8"},
		{"a bishop with others in its way", "Kb1 kg8 Bd4 Pc3 pf6 Pa7 pe3", "d4", "b6 c5 e5 f6 e3"},
		{"a rook", "Ka1 kh7 Rd4", "d4", "a4 b4 c4 e4 f4 g4 h4 d1 d2 d3 d5 d6 d7 d8"},
		{"a rook with others in its way", "Ka1 kh7 Rd4 Pd3 pd6 bc4 Bg4", "d4", "d5 d6 c4 e4 f4"},
		{"a queen", "Kb1 kh7 Qc3", "c3", "a1 b2 d4 e5 f6 g7 h8 a5 b4 d2 e1 a3 b3 d3 e3 f3 g3 h3 c1 c2 c4 c5 c6 c7 c8"},
		{"a queen shut in", "Kb1 kh7 Qa1 Pa2 Pb2", "a1", ""},
		{"a king", "Kd4 kh8", "d4", "c3 c4 c5 d3 d5 e3 e4 e5"},
		{"a king in a corner", "Ka1 kh8", "a1", "a2 b1 b2"},
		{"a king beside its own", "Ka1 kh8 Pa2 Bb1", "a1", "b2"},
		{"a king near the other", "Kd4 kd6", "d4", "c3 c4 d3 e3 e4"},
		{"a king that takes", "Kd4 kh8 pd5", "d4", "c3 c5 d3 d5 e3 e5"},
		{"a king that may not take", "Ka1 kh8 ra2 nc3", "a1", ""},
		{"a king, not along the line of a rook", "Kd4 kh8 rd8", "d4", "c3 c4 c5 e3 e4 e5"},
		{"a king, not along the line of a bishop", "Kd4 kh1 ba7", "d4", "c3 c4 d3 d5 e4 e5"},
		{"a pawn on its first rank", "Ka1 kh8 Pe2", "e2", "e3 e4"},
		{"a pawn off its first rank", "Ka1 kh8 Pe3", "e3", "e4"},
		{"a pawn far on", "Ka1 kh8 Pe6", "e6", "e7"},
		{"a pawn with a piece ahead", "Ka1 kh8 Pe2 ne3", "e2", ""},
		{"a pawn with its own ahead", "Ka1 kh8 Pe2 Ne3", "e2", ""},
		{"a pawn with a piece two ahead", "Ka1 kh8 Pe2 ne4", "e2", "e3"},
		{"a pawn with its own two ahead", "Ka1 kh8 Pe2 Be4", "e2", "e3"},
		{"a pawn that takes", "Ka1 kh8 Pe4 nd5 rf5", "e4", "d5 e5 f5"},
		{"a pawn that just takes", "Ka1 kh8 Pe4 nd5 pe5", "e4", "d5"},
		{"a pawn that takes from its first rank", "Ka1 kh8 Pe2 pd3 pf3 ne3", "e2", "d3 f3"},
		{"a pawn, not its own", "Ka1 kg8 Pe4 Nd5 Rf5 Be5", "e4", ""},
		{"a pawn, not over the border", "Kd1 kd8 Ph4 na5 na6 ph5", "h4", ""},
		{"a pawn, not over the other border", "Kd1 kd8 Pa4 nh4 nh5 pa5", "a4", ""},
		{"a pawn that becomes another", "Ka1 kh3 Pe7", "e7", "e8n e8b e8r e8q"},
		{"a pawn that becomes another by taking", "Ka1 kh3 Pe7 nd8 rf8 be8", "e7", "d8n d8b d8r d8q f8n f8b f8r f8q"},
		{"a pawn that becomes another in all ways", "Kd1 kh3 Pb7 nc8 ra8", "b7", "a8n a8b a8r a8q b8n b8b b8r b8q c8n c8b c8r c8q"},
		{"a pawn at the edge that becomes another", "Ka1 kd3 Ph7 ng8", "h7", "g8n g8b g8r g8q h8n h8b h8r h8q"},
		{"a pawn shut in on the seventh rank", "Ka1 kh3 Pe7 ne8", "e7", ""},
	} {
		if l := from(every(t, c.what, of(0, c.pieces)), c.from); !slices.Equal(l, targets(c.from, c.want)) {
			t.Errorf("%s: %v; want %v", c.what, l, targets(c.from, c.want))
		}
	}
}

// By From, then To, then Into.
func TestAllInOrder(t *testing.T) {
	for _, c := range []struct {
		p    api.Chess
		want string
	}{
		{of(0, "Ka1 kd3 Pb7 Pg7 na8"), "a1b1 a1a2 a1b2 b7a8n b7a8b b7a8r b7a8q b7b8n b7b8b b7b8r b7b8q g7g8n g7g8b g7g8r g7g8q"},
		{of(1, "Ka3 kh8 pd2 Ne1"), "d2d1n d2d1b d2d1r d2d1q d2e1n d2e1b d2e1r d2e1q h8g7 h8h7 h8g8"},
		{withCastle(of(0, "Ke1 Ra1 Rh1 Pa2 Ph2 Pd2 Pe2 Pf2 kb8"), 3), "a1b1 a1c1 a1d1 e1c1 e1d1 e1f1 e1g1 h1f1 h1g1 a2a3 a2a4 d2d3 d2d4 e2e3 e2e4 f2f3 f2f4 h2h3 h2h4"},
		{withPassed(of(0, "Ka1 kh8 Pc5 Pe5 pd5"), "d6"), "a1b1 a1a2 a1b2 c5c6 c5d6 e5d6 e5e6"},
	} {
		if l := every(t, c.want, c.p); !slices.Equal(l, row(c.want)) {
			t.Errorf("%v; want %v", l, row(c.want))
		}
	}
}

func TestAllLeavesNoKingAttacked(t *testing.T) {
	for _, c := range []struct{ what, pieces, want string }{
		{"a rook that is bound goes along its line", "Ka1 Ra2 ra4 kh8", "a1b1 a1b2 a2a3 a2a4"},
		{"a bishop that is bound", "Ka1 Ba2 ra4 kh8", "a1b1 a1b2"},
		{"a knight that is bound", "Ka1 Nb2 bd4 kh8", "a1a2 a1b1"},
		{"a pawn that is bound goes along its line", "Ka1 Pa2 ra8 kh8", "a1b1 a1b2 a2a3 a2a4"},
		{"a pawn that takes what binds it", "Ka1 Pb2 bc3 kh8", "a1a2 a1b1 b2c3"},
		{"a pawn that is bound across", "Ka2 Pd2 rh2 pc3 pe3 kh8", "a2a1 a2a3 a2b1 a2b3"},
		{"two in the line are not bound", "Ka1 Pa2 Na3 ra8 kh8", "a1b1 a1b2 a3b1 a3b5 a3c2 a3c4"},
		{"check: away, between, or taken", "Ka1 ra8 kh6 Bb7 Nc3 Rg4", "a1b1 a1b2 c3a2 c3a4 g4a4 b7a6 b7a8"},
		{"check of a knight: away, or taken", "Ka1 nc2 kh7 Rc8 Pb2", "a1a2 a1b1 c8c2"},
		{"check of a pawn: away, or taken", "Ka1 pb2 kh7 Rb8 nd4", "a1a2 a1b1 b8b2 a1b2"},
		{"double check: just away", "Ka1 ra8 nc2 kh6 Rc4 Bb7", "a1b1 a1b2"},
		{"mate", "Ka1 ra8 rb8 kh8 Pg2", ""},
		{"stalemate", "Ka1 rb8 rh2 kh8", ""},
		{"stalemate but for a pawn", "Ka1 rb8 rh2 kh8 Pe4", "e4e5"},
		{"stalemate with a piece that is bound", "Ka1 rb8 rh2 kh8 Nb1 rg1", ""},
	} {
		want := row(c.want)
		slices.SortFunc(want, inOrder)
		if l := every(t, c.what, of(0, c.pieces)); !slices.Equal(l, want) {
			t.Errorf("%s: %v; want %v", c.what, l, want)
		}
	}
}

func TestAllInPassing(t *testing.T) {
	for _, c := range []struct{ what, pieces, passed, from, want string }{
		{"to the left", "Ka1 kh8 Pe5 pd5", "d6", "e5", "d6 e6"},
		{"to the right", "Ka1 kh8 Pc5 pd5", "d6", "c5", "c6 d6"},
		{"one of two", "Ka1 kh8 Pc5 Pe5 pd5", "d6", "c5", "c6 d6"},
		{"the other of two", "Ka1 kh8 Pc5 Pe5 pd5", "d6", "e5", "d6 e6"},
		{"at the edge", "Kd1 kd8 Pb5 pa5", "a6", "b5", "a6 b6"},
		{"at the other edge", "Kd1 kd8 Pg5 ph5", "h6", "g5", "g6 h6"},
		{"not over the border", "Kd1 kd8 Ph4 pa5", "a6", "h4", "h5"},
		{"not over the other border", "Kd1 kd8 Pa6 ph5", "h6", "a6", "a7"},
		{"not a pawn beside that did not pass", "Ka1 kh8 Pe5 pd5 pf5", "d6", "e5", "d6 e6"},
		{"not a pawn elsewhere", "Ka1 kh8 Pg5 pd5", "d6", "g5", "g6"},
		{"not from a rank below", "Ka1 kh8 Pe4 pd5", "d6", "e4", "d5 e5"},
		{"a knight just goes there", "Ka1 kh8 Nb5 pd5", "d6", "b5", "a3 c3 d4 a7 c7 d6"},
		{"not if both pawns kept a rook off", "Ka5 kh8 Pe5 pd5 rh5", "d6", "e5", "e6"},
		{"but if one more keeps it off", "Ka5 kh8 Pe5 pd5 rh5 Ng5", "d6", "e5", "d6 e6"},
		{"not if the other pawn kept a bishop off", "Ka2 kh8 Pe5 pd5 bg8", "d6", "e5", "e6"},
		{"not if it keeps a rook off", "Ke1 kh8 Pe5 pd5 re8", "d6", "e5", "e6"},
		{"but along the line of what binds it", "Kg3 kh8 Pe5 pd5 bb8", "d6", "e5", "d6"},
		{"what gives check is taken", "Kc4 kh8 Pe5 pd5", "d6", "e5", "d6"},
		{"between king and bishop", "Ka3 kh8 Pe5 pd5 bf8", "d6", "e5", "d6"},
		{"not with another check", "Ka1 kh8 Pe5 pd5 ra8", "d6", "e5", ""},
	} {
		p := withPassed(of(0, c.pieces), c.passed)
		if l := from(every(t, c.what, p), c.from); !slices.Equal(l, targets(c.from, c.want)) {
			t.Errorf("%s: %v; want %v", c.what, l, targets(c.from, c.want))
		}
	}
	if l := from(every(t, "nobody has passed", of(0, "Ka1 kh8 Pe5 pd5")), "e5"); !slices.Equal(l, row("e5e6")) {
		t.Errorf("nobody has passed: %v", l)
	}
}

// castles: where the king of e1 comes to by two places.
func castles(t *testing.T, what string, p api.Chess) string {
	t.Helper()
	short, long := "", ""
	for _, m := range every(t, what, p) {
		switch {
		case p.Places[m.From] != 6:
		case m == move("e1g1"):
			short = "short"
		case m == move("e1c1"):
			long = "long"
		}
	}
	return strings.TrimSpace(short + " " + long)
}

func TestAllCastlings(t *testing.T) {
	const first = "Ke1 Ra1 Rh1 kb7 "
	for _, c := range []struct {
		what, pieces string
		castle       int
		want         string
	}{
		{"both", first, 3, "short long"},
		{"the right to the short one", first, 1, "short"},
		{"the right to the long one", first, 2, "long"},
		{"no right", first, 0, ""},
		{"just the rights of the other", "Ke1 Ra1 Rh1 ke8 ra8 rh8", 12, ""},
		{"all rights", "Ke1 Ra1 Rh1 ke8 ra8 rh8", 15, "short long"},
		{"an own piece on f1", first + "Nf1", 3, "long"},
		{"an own piece on g1", first + "Ng1", 3, "long"},
		{"an own piece on d1", first + "Nd1", 3, "short"},
		{"an own piece on c1", first + "Nc1", 3, "short"},
		{"an own piece on b1", first + "Nb1", 3, "short"},
		{"a piece of the other on f1", first + "nf1", 3, "long"},
		{"a piece of the other on g1", first + "ng1", 3, "long"},
		{"a piece of the other on d1", first + "nd1", 3, "short"},
		{"a piece of the other on c1", first + "nc1", 3, "short"},
		{"a piece of the other on b1", first + "nb1", 3, "short"},
		{"pieces on both sides", first + "Nb1 Ng1", 3, ""},
		{"a1 attacked", first + "ra8", 3, "short long"},
		{"b1 attacked", first + "rb6", 3, "short long"},
		{"c1 attacked", first + "rc8", 3, "short"},
		{"d1 attacked", first + "rd8", 3, "short"},
		{"check", first + "re8", 3, ""},
		{"f1 attacked", first + "rf8", 3, "long"},
		{"g1 attacked", first + "rg8", 3, "long"},
		{"h1 attacked", first + "rh8", 3, "short long"},
		{"a pawn in the attacker's way", first + "rf8 Pf2", 3, "short long"},
		{"an own piece attacks it", first + "Rf8 Rd8", 3, "short long"},
		{"a knight at g1", first + "nh3", 3, "long"},
		{"a knight at c1 and e1", first + "nd3", 3, ""},
		{"a knight at b1 and d1", first + "nc3", 3, "short"},
		{"a bishop at f1", first + "ba6", 3, "long"},
		{"a bishop at b1", first + "bh7", 3, "short long"},
		{"a queen at f1 and g1", first + "qg2", 3, "long"},
		{"a pawn at d1 and f1", first + "pe2", 3, ""},
		{"a pawn at f1", first + "pg2", 3, "long"},
		{"a pawn at g1", first + "ph2", 3, "long"},
		{"a pawn at c1", first + "pb2", 3, "short"},
		{"a pawn at b1", first + "pa2", 3, "short long"},
		{"a pawn at e1", first + "pd2", 3, ""},
		{"a pawn at e1 and g1", first + "pf2", 3, ""},
		{"the other king at c1", "Ke1 Ra1 Rh1 kb2", 3, "short"},
		{"the other king at g1", "Ke1 Ra1 Rh1 kg2", 3, "long"},
	} {
		p := withCastle(of(0, c.pieces), c.castle)
		if told := castles(t, c.what, p); told != c.want {
			t.Errorf("%s: %q; want %q", c.what, told, c.want)
		}
	}
}

func TestAllOfMany(t *testing.T) {
	d := die(161)
	var passing, castlings, becoming, none int
	for range 4000 {
		p := d.any()
		want := plainAll(p)
		l, e := moves.All(p)
		if !slices.Equal(l, want) || e != api.OK {
			t.Fatalf("All(%v) = %v, %d; want %v", p, l, e, want)
		}
		if !slices.IsSortedFunc(l, inOrder) {
			t.Fatalf("All(%v) = %v: not in order", p, l)
		}
		turned, e := moves.All(mirrored(p))
		if !slices.Equal(mirroredMoves(turned), l) || e != api.OK {
			t.Fatalf("All(%v), mirrored: %v, %d; want %v", p, turned, e, l)
		}
		if len(l) == 0 {
			none++
		}
		for _, m := range l {
			piece := max(p.Places[m.From], -p.Places[m.From])
			switch {
			case piece == 1 && m.To == p.EnPassant:
				passing++
			case piece == 6 && m.To-m.From == 2 || piece == 6 && m.From-m.To == 2:
				castlings++
			case m.Into != 0:
				becoming++
			}
		}
	}
	if passing < 100 || castlings < 100 || becoming < 100 || none < 20 {
		t.Errorf("%d in passing, %d castlings, %d become others, %d without a move", passing, castlings, becoming, none)
	}
}

// P16.2

func fenOf(t *testing.T, p api.Chess) string {
	t.Helper()
	text, e := chess.Show(p)
	if e != api.OK {
		t.Errorf("may not be: %v", p)
	}
	return text
}

func positionOf(t *testing.T, fen string) api.Chess {
	t.Helper()
	p, e := chess.Read(fen)
	if e != api.OK {
		t.Fatalf("%q: %d", fen, e)
	}
	return p
}

func TestDo(t *testing.T) {
	const (
		begin = "rnbqkbnr/pppppppp/8/8/8/8/PPPPPPPP/RNBQKBNR w KQkq - 0 1"
		white = "r3k2r/8/8/8/8/8/8/R3K2R w KQkq - 3 9"
		black = "r3k2r/8/8/8/8/8/8/R3K2R b KQkq - 3 9"
		passe = "4k3/8/8/3pP3/8/8/8/4K3 w - d6 0 2"
		long  = "k7/8/8/8/8/P7/8/7K w - - 999 999"
	)
	for _, c := range []struct{ fen, move, want string }{
		{begin, "e2e4", "rnbqkbnr/pppppppp/8/8/4P3/8/PPPP1PPP/RNBQKBNR b KQkq e3 0 1"},
		{begin, "e2e3", "rnbqkbnr/pppppppp/8/8/8/4P3/PPPP1PPP/RNBQKBNR b KQkq - 0 1"},
		{begin, "g1f3", "rnbqkbnr/pppppppp/8/8/8/5N2/PPPPPPPP/RNBQKB1R b KQkq - 1 1"},
		{"rnbqkbnr/pppppppp/8/8/4P3/8/PPPP1PPP/RNBQKBNR b KQkq e3 0 1", "c7c5", "rnbqkbnr/pp1ppppp/8/2p5/4P3/8/PPPP1PPP/RNBQKBNR w KQkq c6 0 2"},
		{"rnbqkbnr/pppppppp/8/8/4P3/8/PPPP1PPP/RNBQKBNR b KQkq e3 0 1", "g8f6", "rnbqkb1r/pppppppp/5n2/8/4P3/8/PPPP1PPP/RNBQKBNR w KQkq - 1 2"},
		{white, "e1g1", "r3k2r/8/8/8/8/8/8/R4RK1 b kq - 4 9"},
		{white, "e1c1", "r3k2r/8/8/8/8/8/8/2KR3R b kq - 4 9"},
		{white, "e1f1", "r3k2r/8/8/8/8/8/8/R4K1R b kq - 4 9"},
		{white, "a1a2", "r3k2r/8/8/8/8/8/R7/4K2R b Kkq - 4 9"},
		{white, "h1h2", "r3k2r/8/8/8/8/8/7R/R3K3 b Qkq - 4 9"},
		{white, "a1a8", "R3k2r/8/8/8/8/8/8/4K2R b Kk - 0 9"},
		{white, "h1h8", "r3k2R/8/8/8/8/8/8/R3K3 b Qq - 0 9"},
		{black, "e8g8", "r4rk1/8/8/8/8/8/8/R3K2R w KQ - 4 10"},
		{black, "e8c8", "2kr3r/8/8/8/8/8/8/R3K2R w KQ - 4 10"},
		{black, "e8e7", "r6r/4k3/8/8/8/8/8/R3K2R w KQ - 4 10"},
		{black, "a8b8", "1r2k2r/8/8/8/8/8/8/R3K2R w KQk - 4 10"},
		{black, "h8g8", "r3k1r1/8/8/8/8/8/8/R3K2R w KQq - 4 10"},
		{black, "h8h1", "r3k3/8/8/8/8/8/8/R3K2r w Qq - 0 10"},
		{black, "a8a1", "4k2r/8/8/8/8/8/8/r3K2R w Kk - 0 10"},
		{"r3k2r/8/6N1/8/8/8/8/4K3 w kq - 5 20", "g6h8", "r3k2N/8/8/8/8/8/8/4K3 b q - 0 20"},
		{"r3k2r/8/8/8/3b4/8/8/R3K2R b KQq - 5 20", "d4a1", "r3k2r/8/8/8/8/8/8/b3K2R w Kq - 0 21"},
		{"4k3/8/8/8/8/8/8/R3K2R w Q - 5 20", "h1h5", "4k3/8/8/7R/8/8/8/R3K3 b Q - 6 20"},
		{"4k2R/8/8/8/8/8/8/4K3 b - - 5 20", "e8e7", "7R/4k3/8/8/8/8/8/4K3 w - - 6 21"},
		{"4k3/8/8/8/8/8/8/R3K2R w KQ - 5 20", "h1h8", "4k2R/8/8/8/8/8/8/R3K3 b Q - 6 20"},
		{passe, "e5d6", "4k3/8/3P4/8/8/8/8/4K3 b - - 0 2"},
		{passe, "e5e6", "4k3/8/4P3/3p4/8/8/8/4K3 b - - 0 2"},
		{passe, "e1e2", "4k3/8/8/3pP3/8/8/4K3/8 b - - 1 2"},
		{"4k3/8/8/8/Pp6/8/8/4K3 b - a3 0 7", "b4a3", "4k3/8/8/8/8/p7/8/4K3 w - - 0 8"},
		{"4k3/8/8/1N1p4/8/8/8/4K3 w - d6 0 2", "b5d6", "4k3/8/3N4/3p4/8/8/8/4K3 b - - 1 2"},
		{"4k3/3p4/8/8/8/8/8/4K3 b - - 8 31", "d7d5", "4k3/8/8/3p4/8/8/8/4K3 w - d6 0 32"},
		{"4k3/3p4/8/8/8/8/8/4K3 b - - 8 31", "d7d6", "4k3/8/3p4/8/8/8/8/4K3 w - - 0 32"},
		{"8/P6k/8/8/8/8/8/K7 w - - 12 40", "a7a8n", "N7/7k/8/8/8/8/8/K7 b - - 0 40"},
		{"8/P6k/8/8/8/8/8/K7 w - - 12 40", "a7a8b", "B7/7k/8/8/8/8/8/K7 b - - 0 40"},
		{"8/P6k/8/8/8/8/8/K7 w - - 12 40", "a7a8r", "R7/7k/8/8/8/8/8/K7 b - - 0 40"},
		{"8/P6k/8/8/8/8/8/K7 w - - 12 40", "a7a8q", "Q7/7k/8/8/8/8/8/K7 b - - 0 40"},
		{"k7/8/8/8/8/8/6p1/K6R b - - 7 40", "g2h1n", "k7/8/8/8/8/8/8/K6n w - - 0 41"},
		{"k7/8/8/8/8/8/6p1/K6R b - - 7 40", "g2g1q", "k7/8/8/8/8/8/8/K5qR w - - 0 41"},
		{"r3k3/1P6/8/8/8/8/8/4K3 w q - 3 30", "b7a8r", "R3k3/8/8/8/8/8/8/4K3 b - - 0 30"},
		{"k7/8/8/8/8/8/1p6/RK6 b - - 3 30", "b2a1q", "k7/8/8/8/8/8/8/qK6 w - - 0 31"},
		{"k7/8/8/3n4/8/4N3/8/K7 w - - 55 30", "e3d5", "k7/8/8/3N4/8/8/8/K7 b - - 0 30"},
		{"k7/8/8/3n4/8/4N3/8/K7 b - - 55 30", "d5e3", "k7/8/8/8/8/4n3/8/K7 w - - 0 31"},
		{"k7/8/8/8/8/P7/8/7K w - - 99 30", "h1h2", "k7/8/8/8/8/P7/7K/8 b - - 100 30"},
		{"k7/8/8/8/8/P7/8/7K w - - 998 30", "h1h2", "k7/8/8/8/8/P7/7K/8 b - - 999 30"},
		{long, "h1h2", "k7/8/8/8/8/P7/7K/8 b - - 999 999"},
		{long, "a3a4", "k7/8/8/8/P7/8/8/7K b - - 0 999"},
		{"k7/8/8/8/8/P7/8/7K b - - 999 999", "a8a7", "8/k7/8/8/8/P7/8/7K w - - 999 999"},
		{"k7/8/8/8/8/P7/8/7K b - - 5 998", "a8a7", "8/k7/8/8/8/P7/8/7K w - - 6 999"},
		{"k7/8/8/8/8/P7/8/7K w - - 5 998", "h1h2", "k7/8/8/8/8/P7/7K/8 b - - 6 998"},
	} {
		x, e := moves.Do(positionOf(t, c.fen), move(c.move))
		if text := fenOf(t, x); text != c.want || e != api.OK {
			t.Errorf("%s, %s: %s, %d; want %s", c.fen, c.move, text, e, c.want)
		}
	}
}

// The mirrored move leads to the mirrored position, but for the number of the move; behind each move the position may be.
func TestDoOfMany(t *testing.T) {
	d := die(162)
	made := 0
	for range 800 {
		p := d.any()
		for _, m := range plainAll(p) {
			want := plainDo(p, m)
			x, e := moves.Do(p, m)
			if !same(x, want) || e != api.OK {
				t.Fatalf("Do(%v, %v) = %v, %d; want %v", p, m, x, e, want)
			}
			if !chess.May(x) {
				t.Fatalf("Do(%v, %v) = %v, which may not be", p, m, x)
			}
			turned, e := moves.Do(mirrored(p), mirroredMove(m))
			if !same(withFull(turned, 1), withFull(mirrored(x), 1)) || e != api.OK {
				t.Fatalf("Do(%v, %v), mirrored: %v, %d; want %v", p, m, turned, e, mirrored(x))
			}
			made++
		}
	}
	if made < 5000 {
		t.Errorf("only %d moves were made", made)
	}
}

func TestDoRefuses(t *testing.T) {
	for _, c := range []struct {
		what string
		p    api.Chess
		move string
	}{
		{"an empty place", chess.New(), "e3e4"},
		{"the other's pawn", chess.New(), "e7e5"},
		{"nowhere", chess.New(), "e2e2"},
		{"on its own", chess.New(), "a1a2"},
		{"over its own", chess.New(), "a1a3"},
		{"three places", chess.New(), "e2e5"},
		{"slanting to nothing", chess.New(), "e2d3"},
		{"a pawn that becomes another too soon", chess.New(), "e2e4q"},
		{"a knight that becomes another", chess.New(), "g1f3q"},
		{"a castling with all in the way", chess.New(), "e1g1"},
		{"a pawn that becomes nothing", of(0, "Ka1 kh3 Pe7"), "e7e8"},
		{"a pawn that becomes a pawn", of(0, "Ka1 kh3 Pe7"), "e7e8p"},
		{"a pawn that becomes a king", of(0, "Ka1 kh3 Pe7"), "e7e8k"},
		{"a king that becomes another on the last rank", of(0, "Ka7 kh3"), "a7a8q"},
		{"a rook that becomes another on the last rank", of(0, "Ka1 kh3 Re7"), "e7e8q"},
		{"a piece that is bound", of(0, "Ka1 Nb2 bd4 kh8"), "b2d3"},
		{"check stays", of(0, "Ka1 ra8 kh8 Ph2"), "h2h3"},
		{"into check", of(0, "Ka1 rb8 kh8"), "a1b1"},
		{"a castling without right", of(0, "Ke1 Rh1 ke8"), "e1g1"},
		{"a castling with right to the other", withCastle(of(0, "Ke1 Rh1 Ra1 ke8"), 2), "e1g1"},
		{"the rook as it castles", withCastle(of(0, "Ke1 Rh1 ke8"), 1), "e1h1"},
		{"in passing, though nobody has", of(0, "Ka1 kh8 Pe5 pd5"), "e5d6"},
		{"a pawn that goes back", of(0, "Ka1 kh8 Pe4"), "e4e3"},
	} {
		for _, turned := range []bool{false, true} {
			p, m := c.p, move(c.move)
			if turned {
				p, m = mirrored(p), mirroredMove(m)
			}
			if !chess.May(p) {
				t.Fatalf("%s: such a position may not be", c.what)
			}
			if x, e := moves.Do(p, m); !isZero(x) || e != api.ErrRule {
				t.Errorf("%s: %v, %d", c.what, x, e)
			}
		}
	}
}

// Each move that can be thought of is made just if it is one of all.
func TestDoJustWhatMayBe(t *testing.T) {
	d := die(163)
	for range 6 {
		p := d.any()
		l := plainAll(p)
		for place := range 64 * 64 {
			for into := -1; into <= 6; into++ {
				m := api.Move{From: place / 64, To: place % 64, Into: into}
				x, e := moves.Do(p, m)
				if may := slices.Contains(l, m); may != (e == api.OK) || !may && (e != api.ErrRule || !isZero(x)) {
					t.Fatalf("Do(%v, %v) = %v, %d", p, m, x, e)
				}
			}
		}
	}
}

func TestDoOfStrangeNumbers(t *testing.T) {
	numbers := append(strange(), -1, 64, 65, 1000)
	for _, p := range []api.Chess{chess.New(), of(0, "Ka1 kh3 Pe7"), withPassed(of(0, "Ka1 kh8 Pe5 pd5"), "d6")} {
		for _, m := range []api.Move{move("e2e4"), move("e7e8q"), move("e5d6")} {
			for _, n := range numbers {
				for _, x := range []api.Move{{From: n, To: m.To, Into: m.Into}, {From: m.From, To: n, Into: m.Into}, {From: m.From, To: m.To, Into: n}, {From: n, To: n, Into: n}} {
					if y, e := moves.Do(p, x); !isZero(y) || e != api.ErrRule {
						t.Errorf("Do(%v, %v) = %v, %d", p, x, y, e)
					}
				}
			}
		}
	}
}

// P16.3

func TestCountOfKnown(t *testing.T) {
	for _, c := range known {
		p := positionOf(t, c.fen)
		for plies, want := range []int{1, c.rows[0], c.rows[1], c.rows[2]} {
			if n, e := moves.Count(p, plies); n != want || e != api.OK {
				t.Errorf("Count(%s, %d) = %d, %d; want %d", c.fen, plies, n, e, want)
			}
			if n, e := moves.Count(mirrored(p), plies); n != want || e != api.OK {
				t.Errorf("Count(%s, %d), mirrored: %d, %d; want %d", c.fen, plies, n, e, want)
			}
		}
	}
}

func TestCountOfEnds(t *testing.T) {
	for _, c := range []struct {
		what string
		p    api.Chess
		want [4]int
	}{
		{"mate", of(0, "Ka1 ra8 rb8 kh8 Pg2"), [4]int{1, 0, 0, 0}},
		{"stalemate", of(0, "Ka1 rb8 rh2 kh8"), [4]int{1, 0, 0, 0}},
		{"kings alone go on", of(0, "Ka1 kh8"), [4]int{1, 3, 9, 54}},
		{"many half moves do not end it", withHalf(of(0, "Ka1 kh8"), 999), [4]int{1, 3, 9, 54}},
	} {
		for plies, want := range c.want {
			if n, e := moves.Count(c.p, plies); n != want || e != api.OK {
				t.Errorf("%s: Count(%d) = %d, %d; want %d", c.what, plies, n, e, want)
			}
		}
	}
}

func TestCountOfMany(t *testing.T) {
	d := die(164)
	for range 250 {
		p := d.any()
		for plies := range 2 {
			if n, e := moves.Count(p, plies); n != plainCount(p, plies) || e != api.OK {
				t.Fatalf("Count(%v, %d) = %d, %d; want %d", p, plies, n, e, plainCount(p, plies))
			}
		}
		if len(plainAll(p)) > 40 {
			continue
		}
		if n, e := moves.Count(p, 2); n != plainCount(p, 2) || e != api.OK {
			t.Fatalf("Count(%v, 2) = %d, %d; want %d", p, n, e, plainCount(p, 2))
		}
	}
}

// Rows of three moves are those of two behind each first one.
func TestCountOfThree(t *testing.T) {
	d := die(165)
	for range 60 {
		p := d.any()
		want := 0
		for _, m := range plainAll(p) {
			n, _ := moves.Count(plainDo(p, m), 2)
			want += n
		}
		if n, e := moves.Count(p, 3); n != want || e != api.OK {
			t.Fatalf("Count(%v, 3) = %d, %d; want %d", p, n, e, want)
		}
	}
}

func TestCountRefuses(t *testing.T) {
	for _, plies := range append(strange(), -1, 4, 5, 100) {
		if n, e := moves.Count(chess.New(), plies); n != 0 || e != api.ErrRange {
			t.Errorf("Count(%d) = %d, %d", plies, n, e)
		}
	}
}

func TestResult(t *testing.T) {
	for _, c := range []struct {
		what string
		p    api.Chess
		want int
	}{
		{"the beginning", chess.New(), 0},
		{"check", of(0, "Ka1 ra8 kh8"), 0},
		{"mate", of(0, "Ka1 ra8 rb8 kh8 Pg2"), 1},
		{"mate by a king and a rook", of(1, "Kb6 Rh8 kb8"), 1},
		{"mate by a knight among its own", of(1, "Ka1 Nf7 kh8 rg8 ph7 pg7"), 1},
		{"mate, though a pawn could move", of(1, "Kb6 Rh8 kb8 pa2"), 1},
		{"mate with 100 half moves", withHalf(of(1, "Kb6 Rh8 kb8"), 100), 1},
		{"no mate, as a pawn may be taken in passing", withPassed(of(0, "Ka4 Pc5 pb5 nc6 rb8 rh3 kh8"), "b6"), 0},
		{"mate, as it may not", of(0, "Ka4 Pc5 pb5 nc6 rb8 rh3 kh8"), 1},
		{"stalemate", of(0, "Ka1 rb8 rh2 kh8"), 2},
		{"stalemate with 100 half moves", withHalf(of(0, "Ka1 rb8 rh2 kh8"), 100), 2},
		{"stalemate by a bishop, which cannot mate", of(1, "Kb6 Bd6 ka8"), 2},
		{"stalemate with a pawn that cannot move", of(0, "Ka1 rb8 rh2 kh8 Pe4 pe5"), 2},
		{"stalemate with a piece that is bound", of(0, "Ka1 rb8 rh2 kh8 Nb1 rg1"), 2},
		{"kings alone", of(0, "Ka1 kh8"), 3},
		{"a knight", of(0, "Ka1 kh8 Nd4"), 3},
		{"a bishop each on one colour", of(0, "Ka1 kh8 Bc1 bf8"), 3},
		{"a bishop each, not on one colour", of(0, "Ka1 kh7 Bc1 bc8"), 0},
		{"two knights", of(0, "Ka1 kh8 Nd4 Ne4"), 0},
		{"kings alone with 100 half moves", withHalf(of(0, "Ka1 kh8"), 100), 3},
		{"99 half moves", withHalf(of(0, "Ka1 kh8 Ph2"), 99), 0},
		{"100 half moves", withHalf(of(0, "Ka1 kh8 Ph2"), 100), 4},
		{"101 half moves", withHalf(of(0, "Ka1 kh8 Ph2"), 101), 4},
		{"999 half moves", withHalf(of(0, "Ka1 kh8 Ph2"), 999), 4},
		{"check with 100 half moves", withHalf(of(0, "Ka1 ra8 kh8"), 100), 4},
	} {
		if !chess.May(c.p) {
			t.Fatalf("%s: such a position may not be", c.what)
		}
		for _, p := range []api.Chess{c.p, mirrored(c.p)} {
			if n, e := moves.Result(p); n != c.want || e != api.OK {
				t.Errorf("%s: %d, %d; want %d", c.what, n, e, c.want)
			}
		}
	}
}

func TestResultOfMany(t *testing.T) {
	d := die(166)
	var seen [5]int
	for i := range 4000 {
		p := d.any()
		if i%2 == 0 {
			p = d.cornered()
		}
		want := plainResult(p)
		if n, e := moves.Result(p); n != want || e != api.OK {
			t.Fatalf("Result(%v) = %d, %d; want %d", p, n, e, want)
		}
		seen[want]++
	}
	if slices.Min(seen[:]) < 5 {
		t.Errorf("of the results there were %v", seen)
	}
}

// P16.4

func TestPlay(t *testing.T) {
	const around = "g1f3 g8f6 f3g1 f6g8 "
	begin := chess.New()
	rooks := withCastle(of(0, "Ke1 Ra1 Rh1 ke8 ra8 rh8"), 15)
	for _, c := range []struct {
		what        string
		p           api.Chess
		moves       string
		made, times int
		e           api.Errno
	}{
		{"no move", begin, "", 0, 1, api.OK},
		{"one move", begin, "e2e4", 1, 1, api.OK},
		{"there again", begin, around, 4, 2, api.OK},
		{"there three times", begin, around + around, 8, 3, api.OK},
		{"five times are no end", begin, around + around + around + around, 16, 5, api.OK},
		{"on the way there again", begin, around + "g1f3", 5, 2, api.OK},
		{"behind what was there again", begin, around + "e2e4", 5, 1, api.OK},
		{"a wrong first move", begin, "e2e5 e7e5", 0, 1, api.ErrRule},
		{"the other's move first", begin, "e7e5", 0, 1, api.ErrRule},
		{"a wrong move behind others", begin, "e2e4 e7e5 e1g1 b8c6", 2, 1, api.ErrRule},
		{"a wrong move where it was there again", begin, around + "g1e2", 4, 2, api.ErrRule},
		{"nobody's turn behind mate", begin, "f2f3 e7e5 g2g4 d8h4 a2a3", 4, 1, api.ErrRule},
		{"mate", begin, "f2f3 e7e5 g2g4 d8h4", 4, 1, api.OK},
		{"a draw is no end", withHalf(of(0, "Ka1 kh8"), 200), "a1a2 h8h7 a2a1 h7h8", 4, 2, api.OK},
		{"rights to castle are lost", rooks, "h1g1 h8g8 g1h1 g8h8", 4, 1, api.OK},
		{"and there is nothing more to lose", rooks, "h1g1 h8g8 g1h1 g8h8 h1g1 h8g8 g1h1 g8h8", 8, 2, api.OK},
		{"no rights are no loss", withCastle(rooks, 0), "h1g1 h8g8 g1h1 g8h8", 4, 2, api.OK},
		{"a right of one is lost", withCastle(rooks, 2), "h1g1 h8g8 g1h1 g8h8", 4, 2, api.OK},
		{"a right of one is lost by its rook", withCastle(rooks, 2), "a1b1 a8b8 b1a1 b8a8", 4, 1, api.OK},
		{"the other is to move", of(0, "Ka1 kh8 Pe2"), "a1b1 h8h7 b1b2 h7h8 b2a1", 5, 1, api.OK},
		{"both have been to move", of(0, "Ka1 kh8 Pe2"), "a1b1 h8h7 b1b2 h7h8 b2a1 h8h7 a1b1 h7g8 b1a1 g8h8", 10, 2, api.OK},
	} {
		last, made, times, e := moves.Play(c.p, row(c.moves))
		want, _, _, _ := plainPlay(c.p, row(c.moves)[:c.made])
		if !same(last, want) || made != c.made || times != c.times || e != c.e {
			t.Errorf("%s: %v, %d, %d, %d; want %v, %d, %d, %d", c.what, last, made, times, e, want, c.made, c.times, c.e)
		}
	}
}

// Two positions are one just if the same pawn's move to EnPassant may be made, or none.
func TestPlayInPassing(t *testing.T) {
	const aside = " a1b1 h8g8 b1a1 g8h8"
	for _, c := range []struct {
		what, pieces, moves string
		times               int
	}{
		{"nobody is by", "Ka1 kh8 Pe5 pb7", "b7b5" + aside, 2},
		{"there is a pawn by", "Ka1 kh8 Pe5 pd7", "d7d5" + aside, 1},
		{"there is a pawn by, on the other side", "Ka1 kh8 Pc5 pd7", "d7d5" + aside, 1},
		{"two pawns are by", "Ka1 kh8 Pc5 Pe5 pd7", "d7d5" + aside, 1},
		{"the second time it may not be taken either", "Ka1 kh8 Pe5 pd7", "d7d5" + aside + aside, 2},
		{"just a knight is by", "Ka1 kh8 Ne4 pd7", "d7d5" + aside, 2},
		{"the pawn that is by is bound", "Ke1 Ra1 Pe5 re8 kh8 pd7", "d7d5 a1b1 h8g8 b1a1 g8h8", 2},
		{"one of two is bound", "Ke1 Ra1 Pc5 Pe5 re8 kh8 pd7", "d7d5 a1b1 h8g8 b1a1 g8h8", 1},
		{"both pawns keep a rook off", "Ka5 Rb1 Pe5 rh5 kh8 pd7", "d7d5 b1c1 h8g8 c1b1 g8h8", 2},
		{"there is another check", "Ka4 Pe5 be8 kh8 pd7", "d7d5 a4a3 e8f7 a3a4 f7e8", 2},
		{"the check is the pawn's own", "Kc4 Pe5 kh8 pd7", "d7d5 c4c3 h8g8 c3b4 g8h8", 1},
	} {
		last, made, times, e := moves.Play(of(1, c.pieces), row(c.moves))
		want, wantMade, _, _ := plainPlay(of(1, c.pieces), row(c.moves))
		if !same(last, want) || made != wantMade || times != c.times || e != api.OK {
			t.Errorf("%s: %v, %d, %d, %d; want %v, %d, %d", c.what, last, made, times, e, want, wantMade, c.times)
		}
	}
}

func TestPlayOfMany(t *testing.T) {
	d := die(167)
	var again, often, refused, passed int
	for range 500 {
		p := d.any()
		l := d.play(p)
		want, wantMade, wantTimes, wantE := plainPlay(p, l)
		last, made, times, e := moves.Play(p, l)
		if !same(last, want) || made != wantMade || times != wantTimes || e != wantE {
			t.Fatalf("Play(%v, %v) = %v, %d, %d, %d; want %v, %d, %d, %d", p, l, last, made, times, e, want, wantMade, wantTimes, wantE)
		}
		if times > 1 {
			again++
		}
		if times > 2 {
			often++
		}
		if e == api.ErrRule {
			refused++
		}
		if p.EnPassant >= 0 && times > 1 {
			passed++
		}
	}
	if again < 100 || often < 30 || refused < 30 || passed < 10 {
		t.Errorf("%d there again, %d more than twice, %d refused, %d behind a pawn's move of two places", again, often, refused, passed)
	}
}

// play: moves of which many take back the side's last one, so that positions are there again; the last one may be wrong.
func (d *die) play(p api.Chess) []api.Move {
	var l []api.Move
	for range d.below(14) {
		may := plainAll(p)
		if len(may) == 0 {
			break
		}
		m := may[d.below(len(may))]
		if len(l) >= 2 && d.below(8) > 0 {
			back := api.Move{From: l[len(l)-2].To, To: l[len(l)-2].From}
			if slices.Contains(may, back) {
				m = back
			}
		}
		l, p = append(l, m), plainDo(p, m)
	}
	if d.below(5) == 0 {
		l = append(l, api.Move{From: d.below(64), To: d.below(64)})
	}
	return l
}

func TestPlayOfManyMoves(t *testing.T) {
	around := row("g1f3 g8f6 f3g1 f6g8")
	l := slices.Repeat(around, 50)
	last, made, times, e := moves.Play(chess.New(), l)
	if want := withFull(withHalf(chess.New(), 200), 101); !same(last, want) || made != 200 || times != 51 || e != api.OK {
		t.Errorf("200 moves: %v, %d, %d, %d", last, made, times, e)
	}
	for _, more := range [][]api.Move{
		append(slices.Clone(l), around[0]),
		append(slices.Clone(l), move("e2e5")),
		append(row("e2e5"), l...),
		slices.Repeat(l, 100),
		make([]api.Move, 201),
		make([]api.Move, 1<<16),
	} {
		if last, made, times, e := moves.Play(chess.New(), more); !isZero(last) || made != 0 || times != 0 || e != api.ErrCount {
			t.Errorf("%d moves: %v, %d, %d, %d", len(more), last, made, times, e)
		}
	}
	wrongLast := append(slices.Clone(l[:199]), move("e2e5"))
	last, made, times, e = moves.Play(chess.New(), wrongLast)
	if !slices.Equal(last.Places, plainDo(chess.New(), move("g8f6")).Places) || made != 199 || times != 50 || e != api.ErrRule {
		t.Errorf("199 moves and a wrong one: %v, %d, %d, %d", last, made, times, e)
	}
}

func TestPlayOfStrangeNumbers(t *testing.T) {
	for _, n := range append(strange(), -1, 64) {
		for _, m := range []api.Move{{From: n, To: 28}, {From: 12, To: n}, {From: 12, To: 28, Into: n}, {From: n, To: n, Into: n}} {
			if last, made, times, e := moves.Play(chess.New(), []api.Move{m}); !same(last, chess.New()) || made != 0 || times != 1 || e != api.ErrRule {
				t.Errorf("%v: %v, %d, %d, %d", m, last, made, times, e)
			}
		}
	}
}

// What holds everywhere.

func TestWrongPositionsAreRefused(t *testing.T) {
	for what, p := range wrong() {
		if l, e := moves.All(p); len(l) != 0 || e != api.ErrState {
			t.Errorf("All of %s: %v, %d", what, l, e)
		}
		for _, m := range []api.Move{{}, move("e2e4"), {From: -1, To: 64, Into: 7}} {
			if x, e := moves.Do(p, m); !isZero(x) || e != api.ErrState {
				t.Errorf("Do of %s: %v, %d", what, x, e)
			}
		}
		for _, plies := range []int{-1, 0, 1, 3, 4} {
			if n, e := moves.Count(p, plies); n != 0 || e != api.ErrState {
				t.Errorf("Count of %s: %d, %d", what, n, e)
			}
		}
		if n, e := moves.Result(p); n != 0 || e != api.ErrState {
			t.Errorf("Result of %s: %d, %d", what, n, e)
		}
		for _, l := range [][]api.Move{nil, {}, row("e2e4"), make([]api.Move, 201)} {
			if last, made, times, e := moves.Play(p, l); !isZero(last) || made != 0 || times != 0 || e != api.ErrState {
				t.Errorf("Play of %s: %v, %d, %d, %d", what, last, made, times, e)
			}
		}
	}
}

// ask all that can be asked of a position and some moves.
func ask(p api.Chess, l []api.Move) string {
	all, e := moves.All(p)
	var x api.Chess
	if len(l) > 0 {
		x, _ = moves.Do(p, l[0])
	}
	n, f := moves.Count(p, 2)
	result, g := moves.Result(p)
	last, made, times, h := moves.Play(p, l)
	return fmt.Sprint(all, e, x, n, f, result, g, last, made, times, h)
}

func TestListsAreLeftAlone(t *testing.T) {
	d := die(168)
	look := func(p api.Chess, l []api.Move) {
		before, movesBefore := slices.Clone(p.Places), slices.Clone(l)
		p.Places = roomy(p.Places)
		room := append(slices.Clone(l), make([]api.Move, 8)...)
		ask(p, room[:len(l)])
		untouched(t, "a call", p.Places, before)
		if !slices.Equal(room, append(movesBefore, make([]api.Move, 8)...)) {
			t.Errorf("a call changed the moves that were handed in, or their spare room: %v", room)
		}
	}
	for range 150 {
		p := d.any()
		look(p, d.play(p))
	}
	for _, p := range wrong() {
		look(p, row("e2e4 e7e5"))
	}
}

func TestAnswersAreNew(t *testing.T) {
	p := chess.New()
	l := row("e2e4 e7e5")
	all := func() string {
		may, _ := moves.All(p)
		x, _ := moves.Do(p, l[0])
		last, _, _, _ := moves.Play(p, l)
		first, _, _, _ := moves.Play(p, nil)
		stopped, _, _, _ := moves.Play(p, row("e2e5"))
		told := fmt.Sprint(may, x, last, first, stopped)
		scribble(may, api.Move{From: spare})
		for _, y := range []api.Chess{x, last, first, stopped} {
			scribble(y.Places, spare)
		}
		return told
	}
	if a, b := all(), all(); a != b {
		t.Errorf("asked again: %s, then %s", a, b)
	}
	if !same(p, chess.New()) || !slices.Equal(l, row("e2e4 e7e5")) {
		t.Errorf("an answer shares what was handed in: %v, %v", p, l)
	}
}

// A position that is changed while it is looked at, and then put right, is seen by others that look at it meanwhile.
func TestManyLookAtOnePosition(t *testing.T) {
	p := positionOf(t, known[1].fen)
	l := row("e1g1 e8c8 e2a6 b7a6")
	want := ask(p, l)
	var told [8]string
	var group sync.WaitGroup
	for i := range told {
		group.Go(func() { told[i] = ask(p, l) + ask(p, l) })
	}
	group.Wait()
	for _, text := range told {
		if text != want+want {
			t.Fatalf("told %s; want %s twice", text, want)
		}
	}
}
