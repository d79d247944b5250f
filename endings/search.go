package endings

import (
	"iter"

	"gameroom/api"
	"gameroom/pieces"
)

// depths yields the states that have one, the least first: it goes back from those in which black is mated.
func (b board) depths() iter.Seq2[api.End, int] {
	return func(yield func(api.End, int) bool) {
		open, found := b.begin()
		for depth := 0; len(found) > 0; depth++ {
			for _, s := range found {
				if !yield(s, depth) {
					return
				}
			}
			found = b.before(found, open)
		}
	}
}

// begin: of each state how many moves must be known to lead to mate until it has a depth itself, and the states in which black is mated.
// White chooses one of its moves, so one is enough; black's must all lead there, and if it takes the piece, that one never does.
func (b board) begin() (open map[api.End]int, mated []api.End) {
	open = map[api.End]int{}
	for s := range b.states() {
		if s.Turn == api.White {
			open[s] = 1
			continue
		}
		if b.canTake(s) {
			open[s]++
		}
		for range b.steps(s, api.Black) {
			open[s]++
		}
		if open[s] == 0 && b.inCheck(s) {
			mated = append(mated, s)
		}
	}
	return open, mated
}

// before: the states that have a depth now that those of the last depth are found.
func (b board) before(found []api.End, open map[api.End]int) []api.End {
	var next []api.End
	for _, s := range found {
		for t := range b.steps(s, pieces.Other(s.Turn)) {
			open[t]--
			if open[t] == 0 {
				next = append(next, t)
			}
		}
	}
	return next
}
