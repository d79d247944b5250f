// Package cards: what several games with cards ask of them.
package cards

import (
	"iter"
	"slices"

	"gameroom/api"
)

// Is: may a number stand for a card?
func Is(card int) bool {
	return card >= 0 && card < api.Cards
}

// Fault looks at all cards for the one fault before it tells of the other.
func Fault(l []int) api.Errno {
	var times [api.Cards]int
	for _, card := range l {
		if !Is(card) {
			return api.ErrRange
		}
		times[card]++
	}
	if slices.Max(times[:]) > 1 {
		return api.ErrTwice
	}
	return api.OK
}

// Others: all cards but those that are known.
func Others(known []int) []int {
	var l []int
	for card := range api.Cards {
		if !slices.Contains(known, card) {
			l = append(l, card)
		}
	}
	return l
}

// Sets yields all sets of k of n places, in the order of their lists. It goes on in the list that it has yielded, so that none must be made for each set.
func Sets(n, k int) iter.Seq[[]int] {
	return func(yield func([]int) bool) {
		if k < 0 || k > n {
			return
		}
		set := make([]int, k)
		for i := range set {
			set[i] = i
		}
		for yield(set) {
			last := k - 1
			for last >= 0 && set[last] == n-k+last {
				last--
			}
			if last < 0 {
				return
			}
			set[last]++
			for i := last + 1; i < k; i++ {
				set[i] = set[i-1] + 1
			}
		}
	}
}
