package bridge

import "gameroom/api"

const (
	levels   = 7
	firstBid = api.Redouble + 1
	lastCall = firstBid + levels*strains - 1
)

const (
	passesAtBeginning = 4
	passesBehindBid   = 3
)

// auction that goes on.
type auction struct {
	bid     int // the last one; a pass, where none was
	bidder  int
	doubled int
	passes  int // in a row, up to now
}

func (a *auction) isOver() bool {
	if a.bid == api.Pass {
		return a.passes == passesAtBeginning
	}
	return a.passes == passesBehindBid
}

// fault of the next call.
func (a *auction) fault(call, player int) api.Errno {
	switch {
	case call < api.Pass || call > lastCall:
		return api.ErrRange
	case a.isOver():
		return api.ErrOver
	case !a.isAllowed(call, player):
		return api.ErrRule
	}
	return api.OK
}

// isAllowed needs no word of who doubled: it was the side that did not bid.
func (a *auction) isAllowed(call, player int) bool {
	isOwnBid := player%sides == a.bidder%sides
	switch call {
	case api.Pass:
		return true
	case api.Double:
		return a.bid != api.Pass && a.doubled == 0 && !isOwnBid
	case api.Redouble:
		return a.doubled == 1 && isOwnBid
	}
	return call > a.bid
}

func (a *auction) take(call, player int) {
	if call == api.Pass {
		a.passes++
		return
	}
	a.passes = 0
	if call >= firstBid {
		a.bid, a.bidder, a.doubled = call, player, 0
		return
	}
	a.doubled++
}

// declarer: who of the side of the last bid was the first to bid its strain. The last bid itself ends the search.
func declarer(calls []int, a auction) int {
	isOfContract := func(i int) bool {
		return calls[i] >= firstBid && strainOf(calls[i]) == strainOf(a.bid) && i%sides == a.bidder%sides
	}
	i := 0
	for !isOfContract(i) {
		i++
	}
	return i % players
}

func levelOf(bid int) int {
	return (bid-firstBid)/strains + 1
}

func strainOf(bid int) int {
	return (bid - firstBid) % strains
}
