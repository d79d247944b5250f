package notation_test

import (
	"fmt"
	"math"
	"slices"
	"strings"
	"sync"
	"testing"

	"gameroom/api"
	"gameroom/chess"
	"gameroom/moves"
	"gameroom/notation"
)

// Positions that several tests ask for.
const (
	rooks     = "r3k2r/8/8/8/8/8/8/R3K2R w KQkq - 3 9"
	fool      = "rnbqkbnr/pppp1ppp/8/4p3/6P1/5P2/PPPPP2P/RNBQKBNR b KQkq g3 0 2"
	knights   = "4k3/8/8/8/8/8/8/1N2KN2 w - - 0 1"
	hidden    = "4k3/8/8/8/8/8/4B3/4RK2 w - - 0 1" // a rook behind a bishop
	last      = "3n3k/4P3/8/8/8/8/8/4K3 w - - 0 1" // a pawn ahead of the last rank
	slantings = "4k3/8/8/3p4/2P1P3/8/8/4K3 w - - 0 1"
)

// P17.1

func TestWriteOfTheBeginning(t *testing.T) {
	for word, m := range map[string]string{"Nf3": "g1f3", "e4": "e2e4", "e3": "e2e3", "Na3": "b1a3", "h4": "h2h4"} {
		if s, e := notation.Write(chess.New(), move(m)); s != word || e != api.OK {
			t.Errorf("%s: %q, %d; want %q", m, s, e, word)
		}
	}
}

func TestWrite(t *testing.T) {
	for _, c := range []struct{ fen, words string }{
		{"4k3/8/8/8/8/8/8/4K3 w - - 0 1", "e1e2 Ke2 e1d1 Kd1"},
		{"4k3/8/8/8/8/8/8/4K3 w - - 150 999", "e1e2 Ke2"},
		// Which of several.
		{knights, "b1d2 Nbd2 f1d2 Nfd2 b1c3 Nc3 f1e3 Ne3"},
		{"7k/8/8/R7/8/8/8/R3K3 w - - 0 1", "a1a3 R1a3 a5a3 R5a3 a5a8 Ra8+ a1d1 Rd1 a5d5 Rd5"},
		{"8/8/1k6/8/8/8/4K3/R6R w - - 0 1", "a1d1 Rad1 h1d1 Rhd1 a1a5 Ra5 h1h6 Rh6+"},
		{"8/k7/8/8/4Q2Q/8/8/K6Q w - - 0 1", "h4e1 Qh4e1 e4e1 Qee1 h1e1 Q1e1 e4d3 Qd3"},
		{"6k1/3R4/8/8/R6R/8/8/3RK3 w - - 0 1", "d7d4 R7d4 d1d4 R1d4 a4d4 Rad4 h4d4 Rhd4 d7d8 Rd8+"},
		{"4k3/8/8/1N3N2/8/1N3N2/8/4K3 w - - 0 1", "b3d4 Nb3d4 b5d4 Nb5d4 f3d4 Nf3d4 f5d4 Nf5d4"},
		{"4k3/8/8/1N6/8/1N3N2/8/4K3 w - - 0 1", "b3d4 Nb3d4 b5d4 N5d4 f3d4 Nfd4"},
		{"4k3/8/8/8/8/8/1B1B4/4K3 w - - 0 1", "b2c3 Bbc3 d2c3 Bdc3 b2c1 Bbc1 d2c1 Bdc1 b2a3 Ba3"},
		{"4k3/8/8/8/8/3B4/8/4K1N1 w - - 0 1", "d3e2 Be2 g1e2 Ne2 e1e2 Ke2"},
		{"4k3/8/8/8/8/2N5/8/4K1N1 w - - 0 1", "g1e2 Nge2 c3e2 Nce2"},
		{"4k3/8/8/8/1b6/2N5/8/4K1N1 w - - 0 1", "g1e2 Ne2"},
		// What is taken.
		{"4k3/8/8/8/8/8/3p4/1N2KN2 w - - 0 1", "b1d2 Nbxd2 f1d2 Nfxd2 e1d2 Kxd2"},
		{"7k/8/8/R7/8/p7/8/R3K3 w - - 0 1", "a1a3 R1xa3 a5a3 R5xa3"},
		{"8/k7/8/8/4Q2Q/8/8/K3n2Q w - - 0 1", "h4e1 Qh4xe1 e4e1 Qexe1 h1e1 Q1xe1"},
		{"4k3/8/8/8/8/2p5/1P1B4/4K3 w - - 0 1", "b2c3 bxc3 d2c3 Bxc3 b2b3 b3 b2b4 b4"},
		{slantings, "c4d5 cxd5 e4d5 exd5 c4c5 c5 e4e5 e5"},
		{"4k3/8/8/3pP3/8/8/8/4K3 w - d6 0 2", "e5d6 exd6 e5e6 e6"},
		{"4k3/8/8/2PpP3/8/8/8/4K3 w - d6 0 2", "c5d6 cxd6 e5d6 exd6"},
		{"7k/8/8/1N1p4/8/8/8/4K3 w - d6 0 2", "b5d6 Nd6"},
		// What a pawn becomes.
		{last, "e7e8q e8=Q+ e7e8r e8=R+ e7e8b e8=B e7e8n e8=N e7d8q exd8=Q+ e7d8r exd8=R+ e7d8b exd8=B e7d8n exd8=N"},
		{"6k1/4P3/6K1/8/8/8/8/8 w - - 0 1", "e7e8q e8=Q# e7e8r e8=R# e7e8b e8=B e7e8n e8=N"},
		{"n3k3/1P6/8/8/8/8/8/4K3 w - - 0 1", "b7a8q bxa8=Q+ b7b8n b8=N"},
		// Castling.
		{rooks, "e1g1 O-O e1c1 O-O-O e1f1 Kf1 e1d1 Kd1 a1d1 Rd1 h1f1 Rf1 a1a8 Rxa8+"},
		{"5k2/8/8/8/8/8/8/4K2R w K - 0 1", "e1g1 O-O+ h1f1 Rf1+ e1f1 Kf1"},
		{"3k4/8/8/8/8/8/8/R3K3 w Q - 0 1", "e1c1 O-O-O+ a1d1 Rd1+ e1d1 Kd1"},
		{"4rkr1/R7/4B3/8/8/8/6P1/4K2R w K - 0 1", "e1g1 O-O#"},
		{"2rkr3/7R/4B3/8/8/8/2P5/R3K3 w Q - 0 1", "e1c1 O-O-O#"},
		// Check, mate, and neither.
		{"k7/8/1K6/8/8/8/2Q5/8 w - - 0 1", "c2c7 Qc7 c2c8 Qc8# c2c6 Qc6+ c2e4 Qe4+"},
		{hidden, "e2d3 Bd3+ e2b5 Bb5+ f1f2 Kf2"},
		{"8/8/8/k2pP2R/8/8/8/4K3 w - d6 0 2", "e5d6 exd6+"},
		{"4k3/8/8/8/4K3/8/8/4R3 w - - 0 1", "e4d4 Kd4+ e4e5 Ke5"},
		{fool, "d8h4 Qh4# d8g5 Qg5 g8f6 Nf6 g8e7 Ne7"},
	} {
		p := positionOf(t, c.fen)
		words := strings.Fields(c.words)
		for i := 0; i < len(words); i += 2 {
			m, want := move(words[i]), words[i+1]
			if s, e := notation.Write(p, m); s != want || e != api.OK {
				t.Errorf("%s: %s: %q, %d; want %q", c.fen, words[i], s, e, want)
			}
			if s, e := notation.Write(mirrored(p), mirroredMove(m)); s != mirroredWord(want) || e != api.OK {
				t.Errorf("%s, mirrored: %s: %q, %d; want %q", c.fen, words[i], s, e, mirroredWord(want))
			}
		}
	}
}

func TestWriteOfWrongMoves(t *testing.T) {
	begin := chess.New()
	l := append(row("e2e5 e7e5 e1g1 e1e2 a1a3 e4e5 a8a8 e2e4q e2e4p a2b3"), api.Move{}, api.Move{From: 12, To: 28, Into: -1})
	for _, n := range []int{math.MinInt, -1 << 32, -1, 64, 1<<32 + 12, math.MaxInt} {
		l = append(l, api.Move{From: n, To: 28}, api.Move{From: 12, To: n}, api.Move{From: 12, To: 28, Into: n}, api.Move{From: n, To: n, Into: n})
	}
	for _, m := range l {
		if s, e := notation.Write(begin, m); s != "" || e != api.ErrRule {
			t.Errorf("%v: %q, %d", m, s, e)
		}
	}
	for fen, m := range map[string]string{
		last: "e7e8", "4k3/8/8/8/1b6/2N5/8/4K1N1 w - - 0 1": "c3e2",
		"r3k2r/8/8/8/8/8/8/R3K2R w kq - 3 9": "e1g1", "4k3/8/8/3pP3/8/8/8/4K3 w - - 0 2": "e5d6",
	} {
		if s, e := notation.Write(positionOf(t, fen), move(m)); s != "" || e != api.ErrRule {
			t.Errorf("%s: %s: %q, %d", fen, m, s, e)
		}
	}
}

// formOf a word: how a piece is told, and what else there is.
func formOf(word string) []string {
	forms := []string{"pawn's"}
	switch {
	case word[0] == 'O':
		forms[0] = "castling"
	case strings.Contains("NBRQK", word[:1]):
		digits, letters := strings.Count(word, "1"), 0
		for _, sign := range word {
			if sign >= '2' && sign <= '8' {
				digits++
			}
			if sign >= 'a' && sign <= 'h' {
				letters++
			}
		}
		forms[0] = fmt.Sprint("letters ", letters, ", digits ", digits)
	}
	for _, sign := range []string{"x", "=", "+", "#"} {
		if strings.Contains(word, sign) {
			forms = append(forms, sign)
		}
	}
	return forms
}

func TestWriteOfMany(t *testing.T) {
	d := die(171)
	seen := map[string]int{}
	for range 900 {
		p := d.any()
		may, _ := moves.All(p)
		were := map[string]api.Move{}
		for _, m := range may {
			want := plainWord(p, m)
			s, e := notation.Write(p, m)
			if s != want || e != api.OK {
				t.Fatalf("Write(%v, %v) = %q, %d; want %q", p, m, s, e, want)
			}
			if other, ok := were[s]; ok {
				t.Fatalf("of %v both %v and %v are written %q", p, other, m, s)
			}
			were[s] = m
			for _, form := range formOf(s) {
				seen[form]++
			}
			if p.Places[m.From]*p.Places[m.From] == 1 && m.To == p.EnPassant {
				seen["in passing"]++
			}
		}
	}
	for _, form := range []string{"pawn's", "castling", "letters 1, digits 1", "letters 2, digits 1", "letters 1, digits 2", "letters 2, digits 2", "x", "=", "+", "#", "in passing"} {
		if seen[form] < 20 {
			t.Errorf("%s: just %d words", form, seen[form])
		}
	}
}

// P17.2

func TestParse(t *testing.T) {
	begin, _ := chess.Show(chess.New())
	for _, c := range []struct{ fen, words, move string }{
		{begin, "e4", "e2e4"},
		{begin, "Nf3 ♘f3 ♞f3", "g1f3"},
		{knights, "Nbd2 ♘bd2 ♞bd2", "b1d2"},
		{knights, "Ke2 ♔e2 ♚e2", "e1e2"},
		{hidden, "Bd3+ Bd3 ♗d3 ♝d3 ♗d3+ ♝d3+", "e2d3"},
		{rooks, "O-O 0-0 O-0 0-O", "e1g1"},
		{rooks, "O-O-O 0-0-0 O-0-0 0-O-O 0-O-0", "e1c1"},
		{rooks, "Rxa8+ Rxa8 ♖xa8 ♜xa8+", "a1a8"},
		{"5k2/8/8/8/8/8/8/4K2R w K - 0 1", "O-O+ O-O 0-0+ 0-0", "e1g1"},
		{"2rkr3/7R/4B3/8/8/8/2P5/R3K3 w Q - 0 1", "O-O-O# O-O-O 0-0-0# 0-0-0", "e1c1"},
		{fool, "Qh4# Qh4 ♕h4 ♛h4 ♕h4# ♛h4#", "d8h4"},
		{last, "e8=Q+ e8=Q e8=♕ e8=♛+", "e7e8q"},
		{last, "exd8=N exd8=♘ exd8=♞", "e7d8n"},
		{"8/k7/8/8/4Q2Q/8/8/K3n2Q w - - 0 1", "Qh4xe1 ♛h4xe1", "h4e1"},
		{"4k3/8/8/8/8/2p5/1P1B4/4K3 w - - 0 1", "bxc3", "b2c3"},
		{"4k3/8/8/8/8/2p5/1P1B4/4K3 w - - 0 1", "Bxc3 ♗xc3 ♝xc3", "d2c3"},
		{"4k3/8/8/3pP3/8/8/8/4K3 w - d6 0 2", "exd6", "e5d6"},
	} {
		p := positionOf(t, c.fen)
		for word := range strings.FieldsSeq(c.words) {
			if m, e := notation.Parse(p, word); m != move(c.move) || e != api.OK {
				t.Errorf("%s: %q: %v, %d; want %v", c.fen, word, m, e, move(c.move))
			}
			if m, e := notation.Parse(mirrored(p), mirroredWord(word)); m != mirroredMove(move(c.move)) || e != api.OK {
				t.Errorf("%s, mirrored: %q: %v, %d; want %v", c.fen, word, m, e, mirroredMove(move(c.move)))
			}
		}
	}
}

func TestParseOfNoMove(t *testing.T) {
	begin, _ := chess.Show(chess.New())
	for fen, words := range map[string][]string{
		begin: {
			"", " ", "+", "#", "x", "=", "N", "e", "4", "e5", "e6", "Nf6", "Qd3", "O-O", "0-0", "0-0-0", "*", "1-0", "1.",
			"Nf3+", "Nf3#", "e4+", "e4#", "Nf3!", "e4?", "nf3", "NF3", "E4", "Ngf3", "N1f3", "Ng1f3", "Nxf3", "exe4", "ee4",
			"Pe4", "pe4", "♙e4", "♟e4", "e2e4", "e2-e4", "N-f3", "e4=Q", "e4 ", " e4", "e4\n", "e4.", "1.e4", "e4 e5",
			"e4\x00", "e4\xff", "\xffe4", "\xe2\x99f3", "\xe2", "♖f3", "♘", "Nf٣", "Ｎf3", "Сf3", "i4", "e9", "e0", "a-1",
			strings.Repeat("e4", 1000), strings.Repeat("♘", 1000), strings.Repeat("0", 1000),
		},
		knights:                               {"Nd2", "N1d2", "Nb1d2", "Nbxd2", "Nbd2+", "Nbc3", "♘d2", "Kd1e1", "Kee2"},
		hidden:                                {"Bd3#", "Bd3++", "Bd3+#", "Bd3+ ", "+Bd3", "Kf2+", "Kf2#"},
		rooks:                                 {"o-o", "OO", "00", "O-O-", "-O-O", "O-O-O-O", "O-O+", "0-0#", "Kg1", "Kc1", "O–O", "О-О", "Ke1g1", "Q-Q", "Rg1f1", "Ra8", "Rxa8#"},
		fool:                                  {"Qh4+", "Qh4##", "Qh4#+", "Qh4++", "Qxh4#", "Qg5+", "♙h4"},
		last:                                  {"e8", "e8Q", "e8=", "e8=K", "e8=P", "e8=q", "e8=♙", "e8=♔", "e8=Q#", "e8=N+", "e8=QQ", "exd8", "xd8=Q", "d8=Q", "e7xd8=Q+", "e8(Q)", "=Q"},
		slantings:                             {"ed5", "xd5", "d5", "c4xd5", "exd5+", "e4xd5", "exd5 e.p.", "exd5=Q", "cxd5#", "Exd5"},
		"r3k2r/8/8/8/8/8/8/R3K2R w kq - 3 9":  {"O-O", "0-0", "O-O-O", "0-0-0"},
		"4k3/8/8/8/1b6/2N5/8/4K1N1 w - - 0 1": {"Nge2", "Nce2", "Nd5"},
		"rnb1kbnr/pppp1ppp/8/4p3/6Pq/5P2/PPPPP2P/RNBQKBNR w KQkq - 1 3": {"a3", "Kf2", "", "Nh3"},
	} {
		p := positionOf(t, fen)
		for _, word := range words {
			if m, e := notation.Parse(p, word); m != (api.Move{}) || e != api.ErrForm {
				t.Errorf("%s: %q: %v, %d", fen, word, m, e)
			}
		}
	}
}

// changed: a word with a sign more, a sign less, or another one; or as it was.
func (d *die) changed(word string) string {
	const signs = "abcdefgh12345678xxKQRBN=+#O0-♔♕♖♗♘♙♚♛♜♝♞♟ "
	l, all := []rune(word), []rune(signs)
	sign := all[d.below(len(all))]
	i := d.below(len(l))
	switch d.below(4) {
	case 0:
		l = slices.Insert(l, i, sign)
	case 1:
		l = slices.Delete(l, i, i+1)
	case 2:
		l[i] = sign
	}
	return string(l)
}

func TestParseOfMany(t *testing.T) {
	d := die(172)
	var found, none int
	for range 300 {
		p := d.any()
		all := plainParse(p)
		words := make([]string, 0, len(all))
		for word, m := range all {
			if told, e := notation.Parse(p, word); told != m || e != api.OK {
				t.Fatalf("Parse(%v, %q) = %v, %d; want %v", p, word, told, e, m)
			}
			words = append(words, word)
		}
		slices.Sort(words)
		for range 30 {
			word := "e4"
			if len(words) > 0 {
				word = d.changed(words[d.below(len(words))])
			}
			want, ok := all[word]
			m, e := notation.Parse(p, word)
			if m != want || (e == api.OK) != ok || !ok && e != api.ErrForm {
				t.Fatalf("Parse(%v, %q) = %v, %d; want %v, %v", p, word, m, e, want, ok)
			}
			if ok {
				found++
			} else {
				none++
			}
		}
	}
	if found < 1000 || none < 1000 {
		t.Errorf("%d words were moves, %d none", found, none)
	}
}

// P17.3

// games that were played, as they are told, and their results.
var games = []struct{ text, result string }{
	{"1. e4 e5 2. Nf3 d6 3. d4 Bg4 4. dxe5 Bxf3 5. Qxf3 dxe5 6. Bc4 Nf6 7. Qb3 Qe7 8. Nc3 c6 9. Bg5 b5 10. Nxb5 cxb5 11. Bxb5+ Nbd7 12. O-O-O Rd8 13. Rxd7 Rxd7 14. Rd1 Qe6 15. Bxd7+ Nxd7 16. Qb8+ Nxb8 17. Rd8#", "1-0"},
	{"1. e4 e5 2. f4 exf4 3. Bc4 Qh4+ 4. Kf1 b5 5. Bxb5 Nf6 6. Nf3 Qh6 7. d3 Nh5 8. Nh4 Qg5 9. Nf5 c6 10. g4 Nf6 11. Rg1 cxb5 12. h4 Qg6 13. h5 Qg5 14. Qf3 Ng8 15. Bxf4 Qf6 16. Nc3 Bc5 17. Nd5 Qxb2 18. Bd6 Bxg1 19. e5 Qxa1+ 20. Ke2 Na6 21. Nxg7+ Kd8 22. Qf6+ Nxf6 23. Be7#", "1-0"},
	{"1. e4 e5 2. Nf3 Nc6 3. Bc4 Bc5 4. b4 Bxb4 5. c3 Ba5 6. d4 exd4 7. O-O d3 8. Qb3 Qf6 9. e5 Qg6 10. Re1 Nge7 11. Ba3 b5 12. Qxb5 Rb8 13. Qa4 Bb6 14. Nbd2 Bb7 15. Ne4 Qf5 16. Bxd3 Qh5 17. Nf6+ gxf6 18. exf6 Rg8 19. Rad1 Qxf3 20. Rxe7+ Nxe7 21. Qxd7+ Kxd7 22. Bf5+ Ke8 23. Bd7+ Kf8 24. Bxe7#", "1-0"},
	{"1. f3 e5 2. g4 Qh4#", "0-1"},
	{"1. e4 d5 2. e5 f5 3. exf6 Kd7 4. fxg7 Ke6 5. gxh8=N", "*"},
	{"1. Nf3 Nf6 2. Ng1 Ng8", "1/2-1/2"},
	{"", "*"},
}

func TestTell(t *testing.T) {
	begin, _ := chess.Show(chess.New())
	for _, c := range []struct{ fen, moves, want string }{
		{begin, "", ""},
		{begin, "e2e4", "1. e4"},
		{begin, "e2e4 e7e5", "1. e4 e5"},
		{begin, "e2e4 e7e5 g1f3", "1. e4 e5 2. Nf3"},
		{begin, "f2f3 e7e5 g2g4 d8h4", "1. f3 e5 2. g4 Qh4#"},
		{fool, "", ""},
		{fool, "d8h4", "2... Qh4#"},
		{fool, "g8f6 g4g5 f6h5", "2... Nf6 3. g5 Nh5"},
		{rooks, "e1g1 e8c8 g1g2", "9. O-O O-O-O 10. Kg2"},
		{"4k3/8/8/8/8/8/8/4K2R w K - 9 998", "e1g1 e8e7 f1f2 e7e6 f2f3 e6e5", "998. O-O Ke7 999. Rf2 Ke6 999. Rf3 Ke5"},
		{"4k3/8/8/8/8/8/8/4K2R b K - 9 999", "e8e7 h1h2 e7e6", "999... Ke7 999. Rh2 Ke6"},
	} {
		if s, e := notation.Tell(positionOf(t, c.fen), row(c.moves)); s != c.want || e != api.OK {
			t.Errorf("%s: %s: %q, %d; want %q", c.fen, c.moves, s, e, c.want)
		}
	}
}

func TestTellOfWrongMoves(t *testing.T) {
	around := slices.Repeat(row("g1f3 g8f6 f3g1 f6g8"), 50)
	for _, c := range []struct {
		what string
		l    []api.Move
		e    api.Errno
	}{
		{"a wrong first move", row("e2e5"), api.ErrRule},
		{"the other's move first", row("e7e5"), api.ErrRule},
		{"a wrong move behind others", row("e2e4 e7e5 e1g1"), api.ErrRule},
		{"a wrong move ahead of others", row("e2e5 e7e5 g1f3"), api.ErrRule},
		{"a move behind mate", row("f2f3 e7e5 g2g4 d8h4 a2a3"), api.ErrRule},
		{"strange numbers", []api.Move{{From: math.MinInt, To: math.MaxInt, Into: -7}}, api.ErrRule},
		{"no move at all", make([]api.Move, 1), api.ErrRule},
		{"199 moves and a wrong one", append(slices.Clone(around[:199]), move("e2e5")), api.ErrRule},
		{"200 wrong moves", make([]api.Move, 200), api.ErrRule},
		{"201 moves", append(slices.Clone(around), around[0]), api.ErrCount},
		{"201 wrong moves", make([]api.Move, 201), api.ErrCount},
		{"very many moves", slices.Repeat(around, 100), api.ErrCount},
	} {
		if s, e := notation.Tell(chess.New(), c.l); s != "" || e != c.e {
			t.Errorf("%s: %q, %d; want %d", c.what, s, e, c.e)
		}
	}
	s, e := notation.Tell(chess.New(), around)
	if words := strings.Fields(s); len(words) != 300 || words[297] != "100." || words[299] != "Ng8" || e != api.OK {
		t.Errorf("200 moves: %q, %d", s, e)
	}
}

// plainTell: numbers, then words.
func plainTell(p api.Chess, l []api.Move) string {
	text := ""
	for i, m := range l {
		switch {
		case p.Turn == 0:
			text += fmt.Sprintf(" %d. ", p.Full)
		case i == 0:
			text += fmt.Sprintf(" %d... ", p.Full)
		default:
			text += " "
		}
		text += plainWord(p, m)
		p, _ = moves.Do(p, m)
	}
	return strings.TrimPrefix(text, " ")
}

// What is told is a game again.
func TestTellOfMany(t *testing.T) {
	d := die(173)
	for i := range 150 {
		p := d.any()
		long := d.below(30)
		if i%30 == 0 {
			p, long = chess.New(), 200
		}
		l := d.row(p, long)
		want := plainTell(p, l)
		text, e := notation.Tell(p, l)
		if text != want || e != api.OK {
			t.Fatalf("Tell(%v, %v) = %q, %d; want %q", p, l, text, e, want)
		}
		if back, n, e := notation.Game(p, text); !slices.Equal(back, l) || n != 0 || e != api.OK {
			t.Fatalf("Game(%v, %q) = %v, %d, %d; want %v", p, text, back, n, e, l)
		}
	}
}

// P17.4

func TestGamesThatWerePlayed(t *testing.T) {
	for _, c := range games {
		l, n, e := notation.Game(chess.New(), c.text+" "+c.result)
		if n != 0 || e != api.OK {
			t.Errorf("%q: word %d, %d", c.text, n, e)
		}
		if text, e := notation.Tell(chess.New(), l); text != c.text || e != api.OK {
			t.Errorf("%q is told as %q, %d", c.text, text, e)
		}
		if bare, n, e := notation.Game(chess.New(), strings.NewReplacer("+", "", "#", "").Replace(c.text)); !slices.Equal(bare, l) || n != 0 || e != api.OK {
			t.Errorf("%q without signs: %v, %d, %d; want %v", c.text, bare, n, e, l)
		}
		if numberless, n, e := notation.Game(chess.New(), withoutNumbers(c.text)); !slices.Equal(numberless, l) || n != 0 || e != api.OK {
			t.Errorf("%q without numbers: %v, %d, %d; want %v", c.text, numberless, n, e, l)
		}
	}
}

func withoutNumbers(text string) string {
	words := slices.DeleteFunc(strings.Fields(text), func(word string) bool { return strings.HasSuffix(word, ".") })
	return strings.Join(words, " ")
}

func TestGame(t *testing.T) {
	for _, c := range []struct{ text, moves string }{
		{"", ""},
		{" \t\r\n ", ""},
		{"e4", "e2e4"},
		{"1. e4", "e2e4"},
		{"1. e4 e5 2. Nf3", "e2e4 e7e5 g1f3"},
		{"\t\n1.\r\ne4\te5\n\n2.\rNf3  Nc6 ", "e2e4 e7e5 g1f3 b8c6"},
		{"e4\te5\nNf3\rNc6", "e2e4 e7e5 g1f3 b8c6"},
		// Numbers are passed over wherever they stand, whatever they are.
		{"1. 2... 3. e4 999. 0. e5 0... 77. 999...", "e2e4 e7e5"},
		{"17...", ""},
		// A result ends it.
		{"e4 1-0", "e2e4"},
		{"e4 0-1 e5", "e2e4"},
		{"e4 1/2-1/2 e5 Nf3", "e2e4"},
		{"e4 * e5", "e2e4"},
		{"* e4", ""},
		{"0-1", ""},
		{"1-0 what is this? 1.. \xff", ""},
		{"1. e4 * * 1-0 e4 e4", "e2e4"},
		{"f3 e5 g4 Qh4# 0-1 a3", "f2f3 e7e5 g2g4 d8h4"},
		// Moves as Parse takes them.
		{"1. ♘f3 ♞f6 2. g3 g6 3. ♝g2 ♗g7 4. 0-0 O-O", "g1f3 g8f6 g2g3 g7g6 f1g2 f8g7 e1g1 e8g8"},
		{"f3 e5 g4 Qh4", "f2f3 e7e5 g2g4 d8h4"},
	} {
		if l, n, e := notation.Game(chess.New(), c.text); !slices.Equal(l, row(c.moves)) || n != 0 || e != api.OK {
			t.Errorf("%q: %v, %d, %d; want %v", c.text, l, n, e, row(c.moves))
		}
	}
	if l, n, e := notation.Game(positionOf(t, fool), "7. Qh4# 0-1"); !slices.Equal(l, row("d8h4")) || n != 0 || e != api.OK {
		t.Errorf("black first: %v, %d, %d", l, n, e)
	}
}

// With a word that is no move its number is told, and the moves ahead of it.
func TestGameOfWrongWords(t *testing.T) {
	for _, c := range []struct {
		text, moves string
		word        int
	}{
		{"e5", "", 0},
		{"1. e5", "", 1},
		{"1. e4 e5 2. Ke3", "e2e4 e7e5", 4},
		{"1. e4 e5 2. Nf3 Nf3 *", "e2e4 e7e5 g1f3", 5},
		{"e4 e4", "e2e4", 1},
		{"e4 e5+", "e2e4", 1},
		{"f3 e5 g4 Qh4+", "f2f3 e7e5 g2g4", 3},
		{"f3 e5 g4 Qh4# a3", "f2f3 e7e5 g2g4 d8h4", 4},
		{"x 1-0", "", 0},
		// These are no numbers.
		{"1 e4", "", 0}, {"1.. e4", "", 0}, {"1.... e4", "", 0}, {"e4 1..... e5", "e2e4", 1}, {"1000. e4", "", 0}, {"0001. e4", "", 0},
		{". e4", "", 0}, {"... e4", "", 0}, {"01. e4", "", 0}, {"00. e4", "", 0}, {"007... e4", "", 0}, {"-1. e4", "", 0}, {"+1. e4", "", 0},
		{"1.e4", "", 0}, {"1...e4", "", 0}, {".1. e4", "", 0}, {"1.2. e4", "", 0}, {"1,. e4", "", 0}, {"1… e4", "", 0}, {"١. e4", "", 0}, {"1_0. e4", "", 0},
		{"99999999999999999999. e4", "", 0},
		// These are no results.
		{"e4 1-0.", "e2e4", 1}, {"e4 ½-½", "e2e4", 1}, {"e4 1/2", "e2e4", 1}, {"e4 **", "e2e4", 1}, {"e4 0-0", "e2e4", 1}, {"e4 1-1", "e2e4", 1}, {"e4 O-1", "e2e4", 1}, {"e4 1-O", "e2e4", 1}, {"e4 -", "e2e4", 1},
		// These part no words.
		{"e4\ve5", "", 0}, {"e4\fe5", "", 0}, {"e4\u00a0e5", "", 0}, {"e4\u0085e5", "", 0}, {"e4\x85e5", "", 0}, {"e4\x00e5", "", 0}, {"e4,e5", "", 0}, {"e4\u2028e5", "", 0},
		{"e4 \v e5", "e2e4", 1}, {"e4 \x00", "e2e4", 1}, {"e4 \xff", "e2e4", 1},
	} {
		if l, n, e := notation.Game(chess.New(), c.text); !slices.Equal(l, row(c.moves)) || n != c.word || e != api.ErrForm {
			t.Errorf("%q: %v, %d, %d; want %v, %d", c.text, l, n, e, row(c.moves), c.word)
		}
	}
}

func TestGameOfManyMoves(t *testing.T) {
	around := strings.Repeat("Nf3 Nf6 Ng1 Ng8 ", 50)
	numbered := strings.Repeat("1. Nf3 Nf6 2. Ng1 Ng8 ", 50)
	l := slices.Repeat(row("g1f3 g8f6 f3g1 f6g8"), 50)
	for _, c := range []struct {
		what, text string
		word       int
		e          api.Errno
	}{
		{"200 moves", around, 0, api.OK},
		{"200 moves and a number", around + "101.", 0, api.OK},
		{"200 moves and a result", around + "1-0", 0, api.OK},
		{"200 moves, a result, and more", around + "* Nf3 Nf6", 0, api.OK},
		{"201 moves", around + "Nf3", 200, api.ErrCount},
		{"201 moves and a result", around + "e4 *", 200, api.ErrCount},
		{"204 moves", around + "Nf3 Nf6 Ng1 Ng8", 200, api.ErrCount},
		{"201 moves and a wrong one", around + "Nf3 Nf3", 200, api.ErrCount},
		{"200 moves and a wrong one", around + "e5", 200, api.ErrForm},
		{"200 moves with numbers", numbered, 0, api.OK},
		{"201 moves with numbers", numbered + "101. a3", 301, api.ErrCount},
		{"200 moves with numbers, and a wrong one", numbered + "101. 102. a5", 302, api.ErrForm},
	} {
		if told, n, e := notation.Game(chess.New(), c.text); !slices.Equal(told, l) || n != c.word || e != c.e {
			t.Errorf("%s: %v, %d, %d; want %d, %d", c.what, told, n, e, c.word, c.e)
		}
	}
}

func TestGameOfLongTexts(t *testing.T) {
	blanks := strings.Repeat(" ", api.MaxText)
	for _, text := range []string{blanks[2:] + "e4", "e4" + blanks[2:], "e4 * " + strings.Repeat("x", api.MaxText-5)} {
		if l, n, e := notation.Game(chess.New(), text); !slices.Equal(l, row("e2e4")) || n != 0 || e != api.OK {
			t.Errorf("%d bytes: %v, %d, %d", len(text), l, n, e)
		}
	}
	for _, text := range []string{
		blanks + " ", blanks[1:] + "e4", "e4" + blanks[1:], "e4 * " + strings.Repeat("x", api.MaxText-4),
		"e5" + blanks, strings.Repeat("Nf3 Nf6 Ng1 Ng8 ", 251), "e4 " + strings.Repeat("♘", 1333), strings.Repeat("1. ", 1<<20),
	} {
		if l, n, e := notation.Game(chess.New(), text); len(l) != 0 || n != 0 || e != api.ErrSize {
			t.Errorf("%d bytes: %v, %d, %d", len(text), l, n, e)
		}
	}
	if l, n, e := notation.Game(chess.New(), strings.Repeat("0", api.MaxText)); len(l) != 0 || n != 0 || e != api.ErrForm {
		t.Errorf("one long word: %v, %d, %d", l, n, e)
	}
	if l, n, e := notation.Game(chess.New(), strings.Repeat("1. ", 1333)+"x"); len(l) != 0 || n != 1333 || e != api.ErrForm {
		t.Errorf("many numbers: %v, %d, %d", l, n, e)
	}
}

// plainGame: word by word.
func plainGame(p api.Chess, words []string) ([]api.Move, int, api.Errno) {
	var l []api.Move
	for i, word := range words {
		switch word {
		case "1-0", "0-1", "1/2-1/2", "*":
			return l, 0, api.OK
		case "3.", "12...", "345.":
			continue
		}
		m, ok := plainParse(p)[word]
		if !ok {
			return l, i, api.ErrForm
		}
		l = append(l, m)
		p, _ = moves.Do(p, m)
	}
	return l, 0, api.OK
}

func TestGameOfMany(t *testing.T) {
	d := die(174)
	var whole, wrong, ended int
	for range 150 {
		p := d.any()
		var words []string
		x := p
		for _, m := range d.row(p, d.below(10)) {
			told := spellings(plainWord(x, m))
			words = append(words, told[d.below(len(told))])
			x, _ = moves.Do(x, m)
			if d.below(3) == 0 {
				words = append(words, []string{"3.", "12...", "345."}[d.below(3)])
			}
		}
		if len(words) > 0 && d.below(2) == 0 {
			i := d.below(len(words))
			words[i] = []string{"*", "1-0", "0-1", "1/2-1/2", "e4", "Nf3", "12..", "O-O", words[d.below(len(words))]}[d.below(9)]
		}
		var text strings.Builder
		for _, word := range words {
			text.WriteString(word + []string{" ", "\t", "\n", "\r\n", "  "}[d.below(5)])
		}
		want, wantWord, wantE := plainGame(p, words)
		l, n, e := notation.Game(p, text.String())
		if !slices.Equal(l, want) || n != wantWord || e != wantE {
			t.Fatalf("Game(%v, %q) = %v, %d, %d; want %v, %d, %d", p, text.String(), l, n, e, want, wantWord, wantE)
		}
		switch {
		case e != api.OK:
			wrong++
		case strings.ContainsAny(text.String(), "*/") || strings.Contains(text.String(), "1-0"):
			ended++
		case len(l) > 0:
			whole++
		}
	}
	if whole < 20 || wrong < 10 || ended < 10 {
		t.Errorf("%d whole, %d wrong, %d ended", whole, wrong, ended)
	}
}

// What holds everywhere.

func TestWrongPositionsAreRefused(t *testing.T) {
	begin := chess.New()
	with := func(change func(p *api.Chess)) api.Chess {
		p := chess.New()
		change(&p)
		return p
	}
	for what, p := range map[string]api.Chess{
		"nothing":               {},
		"no places":             {EnPassant: -1, Full: 1},
		"a place too few":       with(func(p *api.Chess) { p.Places = p.Places[:63] }),
		"a place too many":      with(func(p *api.Chess) { p.Places = append(p.Places, 0) }),
		"a piece too great":     with(func(p *api.Chess) { p.Places[20] = 7 }),
		"a piece far too small": with(func(p *api.Chess) { p.Places[20] = math.MinInt }),
		"no king":               with(func(p *api.Chess) { p.Places[4] = 0 }),
		"two kings":             with(func(p *api.Chess) { p.Places[20] = 6 }),
		"a pawn on the first":   with(func(p *api.Chess) { p.Places[1] = 1 }),
		"the other is in check": with(func(p *api.Chess) { p.Places[at("d7")] = 1 }),
		"castle 16":             with(func(p *api.Chess) { p.Castle = 16 }),
		"castle without rook":   with(func(p *api.Chess) { p.Places[0] = 0 }),
		"passed by nobody":      with(func(p *api.Chess) { p.EnPassant = at("d6") }),
		"passed -2":             with(func(p *api.Chess) { p.EnPassant = -2 }),
		"passed far away":       with(func(p *api.Chess) { p.EnPassant = math.MaxInt }),
		"half 1000":             with(func(p *api.Chess) { p.Half = 1000 }),
		"full 0":                with(func(p *api.Chess) { p.Full = 0 }),
		"full 1000":             with(func(p *api.Chess) { p.Full = 1000 }),
		"turn 2":                with(func(p *api.Chess) { p.Turn = 2 }),
		"turn far below 0":      with(func(p *api.Chess) { p.Turn = math.MinInt }),
	} {
		for _, m := range []api.Move{{}, move("e2e4"), {From: -1, To: 64, Into: 7}} {
			if s, e := notation.Write(p, m); s != "" || e != api.ErrState {
				t.Errorf("Write of %s: %q, %d", what, s, e)
			}
		}
		for _, s := range []string{"", "e4", "e5", "\xff"} {
			if m, e := notation.Parse(p, s); m != (api.Move{}) || e != api.ErrState {
				t.Errorf("Parse of %s: %v, %d", what, m, e)
			}
		}
		for _, l := range [][]api.Move{nil, {}, row("e2e4"), row("e2e5"), make([]api.Move, 201)} {
			if s, e := notation.Tell(p, l); s != "" || e != api.ErrState {
				t.Errorf("Tell of %s: %q, %d", what, s, e)
			}
		}
		for _, text := range []string{"", "*", "e4", "e5", "1. e4 x", strings.Repeat("e4 ", 2000)} {
			if l, n, e := notation.Game(p, text); len(l) != 0 || n != 0 || e != api.ErrState {
				t.Errorf("Game of %s: %v, %d, %d", what, l, n, e)
			}
		}
	}
	if s, e := notation.Write(begin, move("e2e4")); s != "e4" || e != api.OK {
		t.Errorf("the beginning: %q, %d", s, e)
	}
}

// ask all that can be asked of a position and some moves.
func ask(p api.Chess, l []api.Move) string {
	word, e := "e4", api.OK
	if len(l) > 0 {
		word, e = notation.Write(p, l[0])
	}
	m, f := notation.Parse(p, word)
	text, g := notation.Tell(p, l)
	back, n, h := notation.Game(p, text+" "+word)
	return fmt.Sprint(word, e, m, f, text, g, back, n, h)
}

const spare = -77

func TestListsAreLeftAlone(t *testing.T) {
	d := die(175)
	look := func(p api.Chess, l []api.Move) {
		before, movesBefore := slices.Clone(p.Places), slices.Clone(l)
		places := append(slices.Clone(p.Places), slices.Repeat([]int{spare}, 8)...)
		row := append(slices.Clone(l), slices.Repeat([]api.Move{{From: spare}}, 8)...)
		p.Places = places[:len(before)]
		ask(p, row[:len(l)])
		if !slices.Equal(places, append(before, slices.Repeat([]int{spare}, 8)...)) {
			t.Errorf("a call changed the places that were handed in, or their spare room: %v", places)
		}
		if !slices.Equal(row, append(movesBefore, slices.Repeat([]api.Move{{From: spare}}, 8)...)) {
			t.Errorf("a call changed the moves that were handed in, or their spare room: %v", row)
		}
	}
	for range 100 {
		p := d.any()
		look(p, d.row(p, d.below(12)))
	}
	look(chess.New(), row("e2e5"))
	look(api.Chess{Places: make([]int, 64)}, row("e2e4"))
}

func TestAnswersAreNew(t *testing.T) {
	p, l := chess.New(), row("e2e4 e7e5")
	for _, text := range []string{"e4 e5", "e4 e5 e4", "e4 e5 * e4"} {
		first, _, _ := notation.Game(p, text)
		first = first[:cap(first)]
		for i := range first {
			first[i] = api.Move{From: spare}
		}
		if again, _, _ := notation.Game(p, text); !slices.Equal(again, l) {
			t.Errorf("%q: asked again: %v", text, again)
		}
	}
}

// A position that is changed while it is looked at, and then put right, is seen by others that look at it meanwhile.
func TestManyLookAtOnePosition(t *testing.T) {
	p := positionOf(t, known[1])
	l := row("e1g1 e8c8 e2a6 b7a6")
	want := ask(p, l)
	var told [8]string
	var group sync.WaitGroup
	for i := range told {
		group.Go(func() { told[i] = ask(p, l) + ask(p, l) })
	}
	group.Wait()
	for _, text := range told {
		if text != want+want {
			t.Fatalf("told %s; want %s twice", text, want)
		}
	}
}
