package slide

// mostPlaces of a board whose ways are searched.
const mostPlaces = 6

// stays stands where no move leads nearer.
const stays = -1

// stones of a board with so few places, row by row.
type stones [mostPlaces]int

func (t tray) stones() stones {
	var l stones
	copy(l[:], t.Cells)
	return l
}

// rings around a tray: those that need one move to come from there, two, and so on, each told as long as it goes on.
// The answer is, of each tray that was met, the direction of a move that leads one ring nearer.
func rings(t tray, goesOn func(ring []tray) bool) map[stones]int {
	nearer := map[stones]int{t.stones(): stays}
	ring := []tray{t}
	for len(ring) > 0 && goesOn(ring) {
		ring = next(ring, nearer)
	}
	return nearer
}

// next ring: what one move makes of a ring's trays and was not met yet.
func next(ring []tray, nearer map[stones]int) []tray {
	var l []tray
	for _, t := range ring {
		for direction := range sources {
			u := trayOf(t.Grid)
			if !u.move(direction) {
				continue
			}
			if _, met := nearer[u.stones()]; !met {
				nearer[u.stones()] = opposite(direction)
				l = append(l, u)
			}
		}
	}
	return l
}
