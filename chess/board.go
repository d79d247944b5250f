package chess

import "gameroom/api"

const (
	wide   = 8
	places = wide * wide
)

const (
	mostNumber = 999 // of half moves, and of moves
	allRights  = 15  // to castle
	nowhere    = -1  // no place for EnPassant
)

// castlings, in the order of their rights: whose they are, and where the king and the rook stand at first.
var castlings = [4]struct{ side, king, rook int }{
	{api.White, 4, 7},
	{api.White, 4, 0},
	{api.Black, 60, 63},
	{api.Black, 60, 56},
}

// worth of each kind of piece; without its king nobody plays, so that it counts nothing.
var worth = [1 + api.King]int{api.Pawn: 1, api.Knight: 3, api.Bishop: 3, api.Rook: 5, api.Queen: 9}

func isSide(side int) bool { return side == api.White || side == api.Black }

// other of the two sides.
func other(side int) int { return api.White + api.Black - side }

// pieceOf a side and a kind.
func pieceOf(side, kind int) int {
	if side == api.White {
		return kind
	}
	return -kind
}

// kindOf a piece.
func kindOf(piece int) int { return max(piece, -piece) }

// mayStand: may pieces stand so, whatever else is told of the position?
func mayStand(l []int) bool {
	if len(l) != places {
		return false
	}
	var times [1 + 2*api.King]int // of all pieces, from black's king to white's
	for place, piece := range l {
		if piece < -api.King || piece > api.King {
			return false
		}
		if kindOf(piece) == api.Pawn && (place < wide || place >= places-wide) {
			return false
		}
		times[api.King+piece]++
	}
	return times[0] == 1 && times[2*api.King] == 1
}

// mayCastle: are the kings and rooks where the rights need them?
func mayCastle(p api.Chess) bool {
	if p.Castle < 0 || p.Castle > allRights {
		return false
	}
	for i, c := range castlings {
		if p.Castle&(1<<i) == 0 {
			continue
		}
		if p.Places[c.king] != pieceOf(c.side, api.King) || p.Places[c.rook] != pieceOf(c.side, api.Rook) {
			return false
		}
	}
	return true
}

// mayPass: can a pawn just have gone over EnPassant?
func mayPass(p api.Chess) bool {
	if p.EnPassant == nowhere {
		return true
	}
	rank, up := 5, wide
	if p.Turn == api.Black {
		rank, up = 2, -wide
	}
	if p.EnPassant/wide != rank {
		return false
	}
	from, over, to := p.Places[p.EnPassant+up], p.Places[p.EnPassant], p.Places[p.EnPassant-up]
	return from == 0 && over == 0 && to == pieceOf(other(p.Turn), api.Pawn)
}

// lead of white's pieces over black's.
func lead(l []int) int {
	sum := 0
	for _, piece := range l {
		if piece > 0 {
			sum += worth[piece]
		} else {
			sum -= worth[-piece]
		}
	}
	return sum
}

// tooLittle: do both sides lack what could ever give mate?
func tooLittle(l []int) bool {
	var kinds [1 + api.King]int
	var shades [2]int // of places with bishops
	for place, piece := range l {
		kinds[kindOf(piece)]++
		if kindOf(piece) == api.Bishop {
			shades[(place/wide+place%wide)%2]++
		}
	}
	if kinds[api.Pawn]+kinds[api.Rook]+kinds[api.Queen] > 0 {
		return false
	}
	alike := kinds[api.Knight] == 0 && min(shades[0], shades[1]) == 0
	return alike || kinds[api.Knight]+kinds[api.Bishop] <= 1
}
