package draughts

// way of a piece: the places that it comes to, its own first, and what it jumps over. An array holds them, so that ways with the same beginning share no memory.
type way struct {
	places [1 + mostPieces]places
	long   int
	over   places
}

// begun: a piece that has not moved yet.
func begun(from places) way {
	w := way{long: 1}
	w.places[0] = from
	return w
}

// on: the way that goes on to a place, over another's piece or over nothing.
func (w way) on(to, over places) way {
	w.places[w.long] = to
	w.long++
	w.over |= over
	return w
}

func (w way) first() places { return w.places[0] }

func (w way) last() places { return w.places[w.long-1] }

// numbers of its places.
func (w way) numbers() []int {
	l := make([]int, w.long)
	for i := range w.long {
		l[i] = w.places[i].number()
	}
	return l
}
