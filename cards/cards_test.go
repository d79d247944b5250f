package cards_test

import (
	"math"
	"slices"
	"testing"

	"gameroom/api"
	"gameroom/cards"
)

func TestIs(t *testing.T) {
	for _, c := range []struct {
		card int
		want bool
	}{{math.MinInt, false}, {-1, false}, {0, true}, {51, true}, {52, false}, {math.MaxInt, false}} {
		if ok := cards.Is(c.card); ok != c.want {
			t.Errorf("Is(%d) = %v", c.card, ok)
		}
	}
}

func TestFault(t *testing.T) {
	all := make([]int, api.Cards)
	for i := range all {
		all[i] = i
	}
	for _, c := range []struct {
		l    []int
		want api.Errno
	}{
		{nil, api.OK},
		{[]int{0, 51}, api.OK},
		{all, api.OK},
		{append(slices.Clone(all), 17), api.ErrTwice},
		{[]int{3, 8, 3}, api.ErrTwice},
		{[]int{-1}, api.ErrRange},
		{[]int{0, 52}, api.ErrRange},
		{[]int{math.MaxInt}, api.ErrRange},
		{[]int{math.MinInt}, api.ErrRange},
		{[]int{3, 3, 52}, api.ErrRange},
	} {
		if e := cards.Fault(c.l); e != c.want {
			t.Errorf("Fault(%v) = %d; want %d", c.l, e, c.want)
		}
	}
}

func TestOthers(t *testing.T) {
	for _, known := range [][]int{nil, {0}, {51, 0, 25}, {5, 6, 7, 8, 9, 10}} {
		l := cards.Others(known)
		if len(l) != api.Cards-len(known) || !slices.IsSorted(l) || cards.Fault(l) != api.OK {
			t.Errorf("Others(%v) = %v", known, l)
		}
		for _, card := range known {
			if slices.Contains(l, card) {
				t.Errorf("Others(%v) has %d", known, card)
			}
		}
	}
}

func TestSets(t *testing.T) {
	for _, c := range []struct {
		n, k int
		want [][]int
	}{
		{0, 0, [][]int{{}}},
		{3, 0, [][]int{{}}},
		{3, 1, [][]int{{0}, {1}, {2}}},
		{4, 2, [][]int{{0, 1}, {0, 2}, {0, 3}, {1, 2}, {1, 3}, {2, 3}}},
		{3, 3, [][]int{{0, 1, 2}}},
		{2, 3, nil},
		{2, -1, nil},
	} {
		var got [][]int
		for set := range cards.Sets(c.n, c.k) {
			got = append(got, slices.Clone(set))
		}
		if !slices.EqualFunc(got, c.want, slices.Equal) {
			t.Errorf("Sets(%d, %d) = %v; want %v", c.n, c.k, got, c.want)
		}
	}
	n := 0
	for range cards.Sets(52, 4) {
		if n++; n == 10 {
			break
		}
	}
	if n != 10 {
		t.Errorf("Sets did not stop: %d", n)
	}
}
