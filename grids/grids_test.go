package grids_test

import (
	"math"
	"slices"
	"testing"

	"gameroom/api"
	"gameroom/grids"
)

func line(cells ...int) api.Grid { return api.Grid{W: len(cells), H: 1, Cells: cells} }

func TestIsLength(t *testing.T) {
	for _, c := range []struct {
		n    int
		want bool
	}{{math.MinInt, false}, {-1, false}, {0, false}, {1, true}, {10, true}, {11, false}, {math.MaxInt, false}} {
		if ok := grids.IsLength(c.n); ok != c.want {
			t.Errorf("IsLength(%d) = %v", c.n, ok)
		}
	}
}

func TestIsPlayer(t *testing.T) {
	for _, c := range []struct {
		who  int
		want bool
	}{{math.MinInt, false}, {-1, false}, {0, false}, {1, true}, {2, true}, {3, false}, {math.MaxInt, false}} {
		if ok := grids.IsPlayer(c.who); ok != c.want {
			t.Errorf("IsPlayer(%d) = %v", c.who, ok)
		}
	}
}

func TestOther(t *testing.T) {
	if a, b := grids.Other(grids.First), grids.Other(grids.Second); a != grids.Second || b != grids.First {
		t.Errorf("others: %d, %d", a, b)
	}
}

func TestMover(t *testing.T) {
	for _, c := range []struct {
		g    api.Grid
		want int
	}{
		{line(0), grids.First},
		{line(0, 2, 1), grids.First},
		{line(1, 2), grids.First},
		{line(1), grids.Second},
		{line(0, 1, 2, 1), grids.Second},
		{line(2), grids.Nobody},
		{line(1, 0, 1), grids.Nobody},
		{line(2, 1, 2), grids.Nobody},
		{line(1, 1, 1), grids.Nobody},
	} {
		if who := grids.Mover(c.g); who != c.want {
			t.Errorf("Mover(%v) = %d; want %d", c.g, who, c.want)
		}
	}
}

func TestEmpty(t *testing.T) {
	for _, c := range []struct {
		g    api.Grid
		want []int
	}{
		{line(0), []int{0}},
		{line(1, 2), nil},
		{line(0, 2, 0, 1, 0), []int{0, 2, 4}},
		{line(1, 0, 0, 2), []int{1, 2}},
		{api.Grid{W: 2, H: 2, Cells: []int{1, 0, 0, 2}}, []int{1, 2}},
	} {
		if l := grids.Empty(c.g); !slices.Equal(l, c.want) {
			t.Errorf("Empty(%v) = %v; want %v", c.g, l, c.want)
		}
	}
}

func TestSignsAt(t *testing.T) {
	g := line(2, 1, 0, 2, 1, 0, 0, 1, 2, 2)
	for _, c := range []struct {
		places []int
		want   grids.Signs
	}{
		{nil, grids.Signs{}},
		{[]int{1}, grids.Signs{1}},
		{[]int{2, 3, 4}, grids.Signs{0, 2, 1}},
		{[]int{1, 2, 3, 4, 5, 6, 7, 8, 9}, grids.Signs{1, 0, 2, 1, 0, 0, 1, 2, 2}},
	} {
		if l := grids.SignsAt(g, c.places); l != c.want {
			t.Errorf("SignsAt(%v) = %v; want %v", c.places, l, c.want)
		}
	}
}

func TestIsPlace(t *testing.T) {
	g := api.Grid{W: 3, H: 2, Cells: make([]int, 6)}
	for _, c := range []struct {
		at   int
		want bool
	}{{math.MinInt, false}, {-1, false}, {0, true}, {5, true}, {6, false}, {math.MaxInt, false}} {
		if ok := grids.IsPlace(g, c.at); ok != c.want {
			t.Errorf("IsPlace(%d) = %v", c.at, ok)
		}
	}
}

func TestStep(t *testing.T) {
	g := api.Grid{W: 4, H: 3, Cells: make([]int, 12)}
	for _, c := range []struct {
		place     int
		direction [2]int
		want      int
		ok        bool
	}{
		{5, [2]int{1, 0}, 6, true},
		{5, [2]int{-1, 0}, 4, true},
		{5, [2]int{0, 1}, 9, true},
		{5, [2]int{0, -1}, 1, true},
		{5, [2]int{-1, 1}, 8, true},
		{5, [2]int{2, 0}, 7, true},
		{5, [2]int{2, -1}, 3, true},
		{5, [2]int{0, 0}, 5, true},
		{7, [2]int{1, 0}, 0, false},
		{4, [2]int{-1, 0}, 0, false},
		{9, [2]int{0, 1}, 0, false},
		{2, [2]int{0, -1}, 0, false},
		{5, [2]int{3, 0}, 0, false},
		{5, [2]int{0, 2}, 0, false},
		{5, [2]int{-2, 0}, 0, false},
		{0, [2]int{-1, -1}, 0, false},
		{11, [2]int{1, 1}, 0, false},
	} {
		if to, ok := grids.Step(g, c.place, c.direction); to != c.want || ok != c.ok {
			t.Errorf("Step(%d, %v) = %d, %v; want %d, %v", c.place, c.direction, to, ok, c.want, c.ok)
		}
	}
}

func TestBeside(t *testing.T) {
	g := api.Grid{W: 3, H: 3, Cells: make([]int, 9)}
	upRight, left, below := [2]int{1, -1}, [2]int{-1, 0}, [2]int{0, 1}
	for _, c := range []struct {
		place      int
		directions [][2]int
		want       []int
	}{
		{4, nil, nil},
		{4, [][2]int{upRight, left, below}, []int{2, 3, 7}},
		{4, [][2]int{below, left}, []int{7, 3}},
		{0, [][2]int{upRight, left, below}, []int{3}},
		{3, [][2]int{left}, nil},
		{5, [][2]int{upRight}, nil},
		{8, [][2]int{below}, nil},
		{8, [][2]int{upRight, left, below}, []int{7}},
	} {
		if l := slices.Collect(grids.Beside(g, c.place, c.directions...)); !slices.Equal(l, c.want) {
			t.Errorf("Beside(%d, %v) = %v; want %v", c.place, c.directions, l, c.want)
		}
	}
	for place := range grids.Beside(g, 4, upRight, left, below) {
		if place != 2 {
			t.Errorf("goes on though nothing more is asked for: %d", place)
		}
		break
	}
}

func TestSpread(t *testing.T) {
	g := api.Grid{W: 4, H: 3, Cells: []int{
		0, 1, 0, 0,
		0, 1, 0, 1,
		0, 0, 1, 0,
	}}
	empty := func(place int) bool { return g.Cells[place] == 0 }
	everywhere := func(int) bool { return true }
	nowhere := func(int) bool { return false }
	right, left, down, up := [2]int{1, 0}, [2]int{-1, 0}, [2]int{0, 1}, [2]int{0, -1}
	for _, c := range []struct {
		what       string
		from       int
		may        func(int) bool
		directions [][2]int
		want       []int
	}{
		{"a region", 9, empty, [][2]int{right, left, down, up}, []int{0, 4, 8, 9}},
		{"not slanting", 6, empty, [][2]int{right, left, down, up}, []int{2, 3, 6}},
		{"alone", 11, empty, [][2]int{right, left, down, up}, []int{11}},
		{"up alone", 8, empty, [][2]int{up}, []int{0, 4, 8}},
		{"everywhere", 5, everywhere, [][2]int{right, left, down, up}, []int{0, 1, 2, 3, 4, 5, 6, 7, 8, 9, 10, 11}},
		{"everywhere to the right and down", 5, everywhere, [][2]int{right, down}, []int{5, 6, 7, 9, 10, 11}},
		{"nowhere but where it begins", 5, nowhere, [][2]int{right, left, down, up}, []int{5}},
		{"in no direction", 5, everywhere, nil, []int{5}},
	} {
		if l := grids.Spread(g, c.from, c.may, c.directions...); !slices.Equal(l, c.want) {
			t.Errorf("%s: %v; want %v", c.what, l, c.want)
		}
	}
	full := api.Grid{W: 10, H: 10, Cells: make([]int, grids.MostPlaces)}
	if l := grids.Spread(full, 55, everywhere, right, left, down, up); len(l) != 100 || l[0] != 0 || l[99] != 99 {
		t.Errorf("the greatest board: %v", l)
	}
}

func TestRegions(t *testing.T) {
	g := api.Grid{W: 4, H: 3, Cells: []int{
		1, 0, 2, 0,
		0, 0, 0, 1,
		1, 1, 0, 0,
	}}
	sides := [][2]int{{1, 0}, {-1, 0}, {0, 1}, {0, -1}}
	of := func(sign int) func(int) bool { return func(place int) bool { return g.Cells[place] == sign } }
	for _, c := range []struct {
		may  func(int) bool
		want [][]int
	}{
		{of(0), [][]int{{1, 4, 5, 6, 10, 11}, {3}}},
		{of(1), [][]int{{0}, {7}, {8, 9}}},
		{of(2), [][]int{{2}}},
		{of(3), nil},
	} {
		if l := slices.Collect(grids.Regions(g, c.may, sides...)); !slices.EqualFunc(l, c.want, slices.Equal) {
			t.Errorf("%v; want %v", l, c.want)
		}
	}
	for region := range grids.Regions(g, of(1), sides...) {
		if region[0] != 0 {
			t.Errorf("goes on though nothing more is asked for: %v", region)
		}
		break
	}
}

func TestInRow(t *testing.T) {
	g := api.Grid{W: 4, H: 4, Cells: []int{
		1, 1, 1, 2,
		0, 1, 2, 2,
		0, 2, 1, 2,
		1, 0, 0, 1,
	}}
	for _, c := range []struct {
		what     string
		place, k int
		want     bool
	}{
		{"across, at its end", 2, 3, true},
		{"across, in its middle", 1, 3, true},
		{"across and slanting, one more", 0, 4, true},
		{"down", 7, 3, true},
		{"down, one more", 7, 4, false},
		{"slanting to the right", 15, 4, true},
		{"slanting to the left", 9, 3, true},
		{"slanting to the left, one more", 9, 4, false},
		{"not over the border", 12, 2, false},
		{"one is a row", 12, 1, true},
		{"longer than asked", 10, 2, true},
		{"longer than the board", 0, 10, false},
	} {
		if in := grids.InRow(g, c.place, c.k); in != c.want {
			t.Errorf("%s: %v", c.what, in)
		}
	}
}
