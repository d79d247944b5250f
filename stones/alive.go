package stones

import (
	"slices"

	"gameroom/grids"
)

// enoughEyes: the last place of an eye can be filled only if the group has no other liberty, so of two eyes neither is.
const enoughEyes = 2

// alive stones of a player, rising.
func (b board) alive(who int) []int {
	groups := slices.Collect(b.regions(b.has(who)))
	regions := slices.Collect(b.regions(b.hasNot(who)))
first:
	for i, group := range groups {
		if b.eyes(group, regions) >= enoughEyes {
			continue
		}
		groups = slices.Delete(groups, i, i+1)
		regions = slices.DeleteFunc(regions, func(region []int) bool {
			return b.borders(region, func(place int) bool { return slices.Contains(group, place) })
		})
		// Groups that were looked at before may have lost an eye by it.
		goto first
	}
	stones := slices.Concat(groups...)
	slices.Sort(stones)
	return stones
}

// eyes that a group has among regions.
func (b board) eyes(group []int, regions [][]int) int {
	liberties := b.liberties(group)
	n := 0
	for _, region := range regions {
		if b.isEye(region, liberties) {
			n++
		}
	}
	return n
}

// isEye of a group with such liberties: does the region have empty places, all of them liberties?
func (b board) isEye(region, liberties []int) bool {
	empty := slices.DeleteFunc(slices.Clone(region), b.hasNot(grids.Nobody))
	return len(empty) > 0 && !slices.ContainsFunc(empty, func(place int) bool {
		return !slices.Contains(liberties, place)
	})
}
