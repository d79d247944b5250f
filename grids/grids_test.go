package grids_test

import (
	"math"
	"slices"
	"testing"

	"gameroom/api"
	"gameroom/grids"
)

func line(cells ...int) api.Grid { return api.Grid{W: len(cells), H: 1, Cells: cells} }

func TestIsLength(t *testing.T) {
	for _, c := range []struct {
		n    int
		want bool
	}{{math.MinInt, false}, {-1, false}, {0, false}, {1, true}, {10, true}, {11, false}, {math.MaxInt, false}} {
		if ok := grids.IsLength(c.n); ok != c.want {
			t.Errorf("IsLength(%d) = %v", c.n, ok)
		}
	}
}

func TestIsPlayer(t *testing.T) {
	for _, c := range []struct {
		who  int
		want bool
	}{{math.MinInt, false}, {-1, false}, {0, false}, {1, true}, {2, true}, {3, false}, {math.MaxInt, false}} {
		if ok := grids.IsPlayer(c.who); ok != c.want {
			t.Errorf("IsPlayer(%d) = %v", c.who, ok)
		}
	}
}

func TestOther(t *testing.T) {
	if a, b := grids.Other(grids.First), grids.Other(grids.Second); a != grids.Second || b != grids.First {
		t.Errorf("others: %d, %d", a, b)
	}
}

func TestMover(t *testing.T) {
	for _, c := range []struct {
		g    api.Grid
		want int
	}{
		{line(0), grids.First},
		{line(0, 2, 1), grids.First},
		{line(1, 2), grids.First},
		{line(1), grids.Second},
		{line(0, 1, 2, 1), grids.Second},
		{line(2), grids.Nobody},
		{line(1, 0, 1), grids.Nobody},
		{line(2, 1, 2), grids.Nobody},
		{line(1, 1, 1), grids.Nobody},
	} {
		if who := grids.Mover(c.g); who != c.want {
			t.Errorf("Mover(%v) = %d; want %d", c.g, who, c.want)
		}
	}
}

func TestEmpty(t *testing.T) {
	for _, c := range []struct {
		g    api.Grid
		want []int
	}{
		{line(0), []int{0}},
		{line(1, 2), nil},
		{line(0, 2, 0, 1, 0), []int{0, 2, 4}},
		{line(1, 0, 0, 2), []int{1, 2}},
		{api.Grid{W: 2, H: 2, Cells: []int{1, 0, 0, 2}}, []int{1, 2}},
	} {
		if l := grids.Empty(c.g); !slices.Equal(l, c.want) {
			t.Errorf("Empty(%v) = %v; want %v", c.g, l, c.want)
		}
	}
}

func TestSignsAt(t *testing.T) {
	g := line(2, 1, 0, 2, 1, 0, 0, 1, 2, 2)
	for _, c := range []struct {
		places []int
		want   grids.Signs
	}{
		{nil, grids.Signs{}},
		{[]int{1}, grids.Signs{1}},
		{[]int{2, 3, 4}, grids.Signs{0, 2, 1}},
		{[]int{1, 2, 3, 4, 5, 6, 7, 8, 9}, grids.Signs{1, 0, 2, 1, 0, 0, 1, 2, 2}},
	} {
		if l := grids.SignsAt(g, c.places); l != c.want {
			t.Errorf("SignsAt(%v) = %v; want %v", c.places, l, c.want)
		}
	}
}

func TestInRow(t *testing.T) {
	g := api.Grid{W: 4, H: 4, Cells: []int{
		1, 1, 1, 2,
		0, 1, 2, 2,
		0, 2, 1, 2,
		1, 0, 0, 1,
	}}
	for _, c := range []struct {
		what     string
		place, k int
		want     bool
	}{
		{"across, at its end", 2, 3, true},
		{"across, in its middle", 1, 3, true},
		{"across and slanting, one more", 0, 4, true},
		{"down", 7, 3, true},
		{"down, one more", 7, 4, false},
		{"slanting to the right", 15, 4, true},
		{"slanting to the left", 9, 3, true},
		{"slanting to the left, one more", 9, 4, false},
		{"not over the border", 12, 2, false},
		{"one is a row", 12, 1, true},
		{"longer than asked", 10, 2, true},
		{"longer than the board", 0, 10, false},
	} {
		if in := grids.InRow(g, c.place, c.k); in != c.want {
			t.Errorf("%s: %v", c.what, in)
		}
	}
}
