package bridge

import "gameroom/api"

const (
	allTricks = 13
	book      = 6 // tricks that a bid asks for beside its level
	game      = 100
)

const (
	diamonds  = 1
	smallSlam = 6
	grandSlam = 7
	redoubled = 2
)

func isContract(c api.Contract) bool {
	return c.Level >= 1 && c.Level <= levels && isStrain(c.Strain) &&
		c.Doubled >= 0 && c.Doubled <= redoubled && c.Declarer >= 0 && c.Declarer < players
}

// made: what the tricks that were asked for bring, with all that is given on top of them.
func made(c api.Contract, vulnerable bool) int {
	bid := c.Level * trickOf(c.Strain)
	if c.Strain == api.NoTrump {
		bid += 10
	}
	bid <<= c.Doubled
	sum := bid + 50*c.Doubled
	if bid >= game {
		sum += either(vulnerable, 500, 300)
	} else {
		sum += 50
	}
	switch c.Level {
	case smallSlam:
		sum += either(vulnerable, 750, 500)
	case grandSlam:
		sum += either(vulnerable, 1500, 1000)
	}
	return sum
}

func trickOf(strain int) int {
	if strain <= diamonds {
		return 20
	}
	return 30
}

// trickAbove: what each trick more than asked brings.
func trickAbove(c api.Contract, vulnerable bool) int {
	if c.Doubled == 0 {
		return trickOf(c.Strain)
	}
	return either(vulnerable, 200, 100) * c.Doubled
}

// failed: what so many tricks too few cost.
func failed(few, doubled int, vulnerable bool) int {
	if doubled == 0 {
		return few * either(vulnerable, 100, 50)
	}
	sum := 0
	for i := range few {
		sum += doubledLoss(i, vulnerable)
	}
	return sum * doubled
}

// doubledLoss: what one trick too few costs, behind so many others, where the contract is doubled once.
func doubledLoss(before int, vulnerable bool) int {
	switch {
	case before == 0:
		return either(vulnerable, 200, 100)
	case before <= 2:
		return either(vulnerable, 300, 200)
	}
	return 300
}

func either(vulnerable bool, yes, no int) int {
	if vulnerable {
		return yes
	}
	return no
}
