package chess

import (
	"gameroom/api"
	"gameroom/pieces"
)

const (
	wide   = pieces.Wide
	places = pieces.Places
)

// allRights to castle.
const allRights = 15

// mayStand: may pieces stand so, whatever else is told of the position?
func mayStand(l []int) bool {
	if len(l) != places {
		return false
	}
	var times [1 + 2*api.King]int // of all pieces, from black's king to white's
	for place, piece := range l {
		if piece < -api.King || piece > api.King {
			return false
		}
		if pieces.Kind(piece) == api.Pawn && (place < wide || place >= places-wide) {
			return false
		}
		times[api.King+piece]++
	}
	return times[0] == 1 && times[2*api.King] == 1
}

// mayCastle: are the kings and rooks where the rights need them?
func mayCastle(p api.Chess) bool {
	if p.Castle < 0 || p.Castle > allRights {
		return false
	}
	for i, c := range pieces.Castlings() {
		if p.Castle&(1<<i) == 0 {
			continue
		}
		if p.Places[c.King] != pieces.Of(c.Side, api.King) || p.Places[c.Rook] != pieces.Of(c.Side, api.Rook) {
			return false
		}
	}
	return true
}

// mayPass: can a pawn just have gone over EnPassant?
func mayPass(p api.Chess) bool {
	if p.EnPassant == pieces.Nowhere {
		return true
	}
	rank, up := 5, pieces.Forward(p.Turn)
	if p.Turn == api.Black {
		rank = 2
	}
	if p.EnPassant/wide != rank {
		return false
	}
	from, over, to := p.Places[p.EnPassant+up], p.Places[p.EnPassant], p.Places[p.EnPassant-up]
	return from == 0 && over == 0 && to == pieces.Of(pieces.Other(p.Turn), api.Pawn)
}

// tooLittle: do both sides lack what could ever give mate?
func tooLittle(l []int) bool {
	var kinds [1 + api.King]int
	var shades [2]int // of places with bishops
	for place, piece := range l {
		kind := pieces.Kind(piece)
		kinds[kind]++
		if kind == api.Bishop {
			shades[(place/wide+place%wide)%2]++
		}
	}
	if kinds[api.Pawn]+kinds[api.Rook]+kinds[api.Queen] > 0 {
		return false
	}
	alike := kinds[api.Knight] == 0 && min(shades[0], shades[1]) == 0
	return alike || kinds[api.Knight]+kinds[api.Bishop] <= 1
}
