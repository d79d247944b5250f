package positions

import (
	"iter"
	"math/bits"
)

// set of places, a bit each: so they come rising, in whatever order they were found.
type set uint64

func just(place int) set { return 1 << place }

// each yields the places one by one, rising.
func (l set) each() iter.Seq[int] {
	return func(yield func(int) bool) {
		for rest := l; rest != 0; rest &= rest - 1 {
			if !yield(bits.TrailingZeros64(uint64(rest))) {
				return
			}
		}
	}
}
