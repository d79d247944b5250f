package pieces

import "gameroom/api"

// worth of each kind of piece; without its king nobody plays, so that it counts nothing.
var worth = [1 + api.King]int{api.Pawn: 1, api.Knight: 3, api.Bishop: 3, api.Rook: 5, api.Queen: 9}

// Lead of white's pieces over black's.
func Lead(l []int) int {
	sum := 0
	for _, piece := range l {
		if piece > 0 {
			sum += worth[piece]
		} else {
			sum -= worth[-piece]
		}
	}
	return sum
}
