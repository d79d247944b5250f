package othello

// board as its mover sees it.
type board struct{ own, other, empty places }

// moves: where the mover may put a sign.
func (b board) moves() places {
	var found places
	for _, d := range directions {
		for row := d.step(b.own) & b.other; row != 0; row &= b.other {
			row = d.step(row)
			found |= row & b.empty
		}
	}
	return found
}

// turned signs of the other, if the mover puts one at a place.
func (b board) turned(place places) places {
	var all places
	for _, d := range directions {
		var row places
		next := d.step(place)
		for ; next&b.other != 0; next = d.step(next) {
			row |= next
		}
		if next&b.own != 0 {
			all |= row
		}
	}
	return all
}

// put: what the other sees behind a move.
func (b board) put(place places) board {
	turned := b.turned(place)
	return board{own: b.other &^ turned, other: b.own | turned | place, empty: b.empty &^ place}
}

// passed: what the other sees if the mover does nothing.
func (b board) passed() board {
	return board{own: b.other, other: b.own, empty: b.empty}
}

// lead: how many signs more the mover has.
func (b board) lead() int { return b.own.count() - b.other.count() }

// count rows of so many moves.
func (b board) count(left int) int {
	if left == 0 {
		return 1
	}
	moves := b.moves()
	if moves == 0 {
		b = b.passed()
		moves = b.moves()
	}
	if moves == 0 {
		return 1
	}
	if left == 1 {
		return moves.count()
	}
	n := 0
	for place := range moves.each() {
		n += b.put(place).count(left - 1)
	}
	return n
}

// best value that the mover can reach so many moves ahead, and the first place with which it does (none: it does not move). A value that does not lie between least and most is told no nearer than that it is beyond them: one of the players has something else that is as good, and was found first.
func (b board) best(left, least, most int) (int, places) {
	if left == 0 {
		return b.lead(), 0
	}
	moves := b.moves()
	if moves == 0 {
		return b.bestPassed(left, least, most), 0
	}
	value, at := least, places(0)
	for place := range moves.each() {
		answer, _ := b.put(place).best(left-1, -most, -value)
		if -answer > value {
			value, at = -answer, place
		}
		if value >= most {
			break
		}
	}
	return value, at
}

// bestPassed: the value for a mover that cannot move.
func (b board) bestPassed(left, least, most int) int {
	p := b.passed()
	if p.moves() == 0 {
		return b.lead()
	}
	answer, _ := p.best(left, -most, -least)
	return -answer
}
