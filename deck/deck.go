// Package deck: cards, and how they are shuffled.
package deck

import "gameroom/api"

// The signs stand in the order of the numbers that they tell.
const (
	ranks        = "23456789TJQKA"
	suitLetters  = "cdhs"
	suitPictures = "♣♦♥♠"
)

const (
	suitsOfRank  = 4
	mostLetters  = 3
	mostHands    = 10
	mostNumbered = 12
)

// Show a card.
func Show(card int) (string, api.Errno) {
	if card < 0 || card >= api.Cards {
		return "", api.ErrRange
	}
	return string(letterAt(ranks, card/suitsOfRank)) + string(letterAt(suitLetters, card%suitsOfRank)), api.OK
}

// Read a card.
func Read(s string) (int, api.Errno) {
	l := firstLetters(s)
	if len(l) == mostLetters && l[0] == '1' && l[1] == '0' {
		l = []rune{'T', l[2]}
	}
	if len(l) != 2 {
		return 0, api.ErrForm
	}
	rank, suit := placeOf(ranks, l[0]), suitOf(l[1])
	if rank < 0 || suit < 0 {
		return 0, api.ErrForm
	}
	return rank*suitsOfRank + suit, api.OK
}

// Riffle a list.
func Riffle(l []int, in bool) ([]int, api.Errno) {
	if !mayBeRiffled(len(l)) {
		return nil, api.ErrSize
	}
	return riffled(l, in), api.OK
}

// Cut a list.
func Cut(l []int, n int) ([]int, api.Errno) {
	if len(l) > api.MaxDeck {
		return nil, api.ErrSize
	}
	if n < 0 || n > len(l) {
		return nil, api.ErrRange
	}
	out := make([]int, 0, len(l))
	out = append(out, l[n:]...)
	return append(out, l[:n]...), api.OK
}

// Order of a riffle.
func Order(n int, in bool) (int, api.Errno) {
	if !mayBeRiffled(n) {
		return 0, api.ErrSize
	}
	times, l := 1, riffled(rising(n), in)
	// A riffle only moves things about, so that some number of them brings all back.
	for !isRising(l) {
		times, l = times+1, riffled(l, in)
	}
	return times, api.OK
}

// Deal cards to hands.
func Deal(l []int, hands, each int) ([][]int, []int, api.Errno) {
	if len(l) > api.MaxDeck || hands < 1 || hands > mostHands || each < 0 {
		return nil, nil, api.ErrSize
	}
	// Not hands*each > len(l): that product may wrap round.
	if each > len(l)/hands {
		return nil, nil, api.ErrCount
	}
	dealt := make([][]int, hands)
	for hand := range hands {
		dealt[hand] = make([]int, each)
		for turn := range each {
			dealt[hand][turn] = l[turn*hands+hand]
		}
	}
	return dealt, append([]int(nil), l[hands*each:]...), api.OK
}

// Sign of an order.
func Sign(l []int) (int, api.Errno) {
	if len(l) > api.MaxDeck {
		return 0, api.ErrSize
	}
	if !isOrder(l) {
		return 0, api.ErrForm
	}
	pairs := 0
	for i := range len(l) {
		pairs += smallerBehind(l, i)
	}
	if pairs%2 != 0 {
		return -1, api.OK
	}
	return 1, api.OK
}

// Number of an order.
func Number(l []int) (int, api.Errno) {
	if len(l) > mostNumbered {
		return 0, api.ErrSize
	}
	if !isOrder(l) {
		return 0, api.ErrForm
	}
	number := 0
	// At place i one of len(l)-i things is chosen: the choices are the digits of the number.
	for i := range len(l) {
		number = number*(len(l)-i) + smallerBehind(l, i)
	}
	return number, api.OK
}

// Nth order of so many.
func Nth(n, k int) ([]int, api.Errno) {
	if n < 0 || n > mostNumbered {
		return nil, api.ErrSize
	}
	ways := factorial(n)
	if k < 0 || k >= ways {
		return nil, api.ErrRange
	}
	left, out := rising(n), make([]int, 0, n)
	for i := range n {
		ways /= n - i
		at := k / ways
		k %= ways
		out = append(out, left[at])
		left = append(left[:at], left[at+1:]...)
	}
	return out, api.OK
}

func letterAt(text string, place int) rune {
	n := 0
	for _, r := range text {
		if n == place {
			return r
		}
		n++
	}
	return 0
}

// placeOf: -1, where the letter is not in the text.
func placeOf(text string, letter rune) int {
	n := 0
	for _, r := range text {
		if r == letter {
			return n
		}
		n++
	}
	return -1
}

func suitOf(letter rune) int {
	if suit := placeOf(suitLetters, letter); suit >= 0 {
		return suit
	}
	return placeOf(suitPictures, letter)
}

// firstLetters: one more than a card may have is enough to refuse a text, however long it is.
func firstLetters(text string) []rune {
	var l []rune
	for _, r := range text {
		if len(l) > mostLetters {
			break
		}
		l = append(l, r)
	}
	return l
}

func mayBeRiffled(n int) bool {
	return n >= 0 && n <= api.MaxDeck && n%2 == 0
}

func riffled(l []int, in bool) []int {
	half := len(l) / 2
	first, second := 0, 1
	if in {
		first, second = 1, 0
	}
	out := make([]int, len(l))
	for i := range half {
		out[2*i+first] = l[i]
		out[2*i+second] = l[half+i]
	}
	return out
}

func rising(n int) []int {
	l := make([]int, n)
	for i := range n {
		l[i] = i
	}
	return l
}

func isRising(l []int) bool {
	for i, x := range l {
		if x != i {
			return false
		}
	}
	return true
}

func isOrder(l []int) bool {
	seen := make([]bool, len(l))
	for _, x := range l {
		if x < 0 || x >= len(l) || seen[x] {
			return false
		}
		seen[x] = true
	}
	return true
}

func smallerBehind(l []int, i int) int {
	n := 0
	for _, x := range l[i+1:] {
		if x < l[i] {
			n++
		}
	}
	return n
}

func factorial(n int) int {
	product := 1
	for i := range n {
		product *= i + 1
	}
	return product
}
