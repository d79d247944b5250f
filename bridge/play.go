package bridge

import (
	"math/bits"
	"slices"

	"gameroom/api"
)

// deal: the play of some hands, all of them seen by all.
type deal struct {
	holder [api.Cards]int // asked only of cards that were dealt
	strain int
	found  map[state]int // what the first side wins from a state on
}

// state between two tricks: all else that was played has no weight any more.
type state struct {
	left   uint64 // a bit for each card that is not put down yet
	leader int
}

// bestPlay: what the first side wins of all tricks.
func bestPlay(hands [][]int, strain, leader int) int {
	d := deal{strain: strain, found: make(map[state]int)}
	s := state{leader: leader}
	for player, hand := range hands {
		for _, card := range hand {
			d.holder[card] = player
			s.left |= 1 << card
		}
	}
	return d.tricks(s)
}

func (d *deal) tricks(s state) int {
	if s.left == 0 {
		return 0
	}
	n, isKnown := d.found[s]
	if !isKnown {
		n = d.goOn(s, make([]int, 0, players))
		d.found[s] = n
	}
	return n
}

// goOn: what the first side wins, where some cards of a trick are put down already.
func (d *deal) goOn(s state, put []int) int {
	if len(put) == players {
		return d.endTrick(s, put)
	}
	player := (s.leader + len(put)) % players
	led := noneLed
	if len(put) > 0 {
		led = put[0]
	}
	var ways []int
	for _, card := range allowed(d.hand(player, s.left), led) {
		rest := state{s.left &^ (1 << card), s.leader}
		ways = append(ways, d.goOn(rest, append(put, card)))
	}
	if isFirstSide(player) {
		return slices.Max(ways)
	}
	return slices.Min(ways)
}

func (d *deal) endTrick(s state, put []int) int {
	next := (s.leader + winner(put, d.strain)) % players
	n := d.tricks(state{s.left, next})
	if isFirstSide(next) {
		n++
	}
	return n
}

func (d *deal) hand(player int, left uint64) []int {
	var l []int
	for ; left != 0; left &= left - 1 {
		if card := bits.TrailingZeros64(left); d.holder[card] == player {
			l = append(l, card)
		}
	}
	return l
}

func isFirstSide(player int) bool {
	return player%sides == 0
}

// allowed: the cards of a hand that may be put down.
func allowed(hand []int, led int) []int {
	if led == noneLed {
		return hand
	}
	isOther := func(card int) bool { return card%suits != led%suits }
	follow := slices.DeleteFunc(slices.Clone(hand), isOther)
	if len(follow) == 0 {
		return hand
	}
	return follow
}

// winner: the place of the card that takes a trick.
func winner(trick []int, strain int) int {
	best := 0
	for i, card := range trick {
		if beats(card, trick[best], strain) {
			best = i
		}
	}
	return best
}

// beats holds a card against one that was put down ahead of it: of unlike suits only trumps take.
func beats(card, other, strain int) bool {
	if card%suits == other%suits {
		return card > other
	}
	return card%suits == strain
}
