// Package sample is what the tests of several packages try: numbers, cells, floors and acts. Nothing but tests calls it.
package sample

import (
	"math"
	"strings"

	"carfax/api"
)

// Numbers is numbers below a bound that look mixed: the same ones for the same seed.
func Numbers(seed int) func(below int) int {
	n := uint32(seed)*2654435761 + 12345
	return func(below int) int {
		n = n*1664525 + 1013904223
		return int(n>>16) % below
	}
}

// Outside is numbers that are no cell, robot or pod of any floor; some of them are one, if their lowest bits alone are looked at.
func Outside() []int {
	return []int{-1, -2, -64, -256, 256, 257, 1 << 16, 1 << 32, 1<<32 + 1, math.MinInt, math.MinInt + 1, math.MaxInt, math.MaxInt - 1}
}

// Floor is a mixed floor of sides up to side, that is 2 at least: lanes, with walls and docks among them. What is right is asked for, so that the tests of layer 3 can import this package, too.
func Floor(side int, draw func(below int) int, right func(f api.Floor) bool) api.Floor {
	for {
		f := api.Floor{W: 1 + draw(side), H: 1 + draw(side)}
		cells := make([]byte, f.W*f.H)
		for i := range cells {
			cells[i] = 'a' + byte(draw(api.MaxZones))
			if draw(4) == 0 {
				cells[i] = '#'
			}
		}
		for robot := range 1 + draw(api.MaxRobots) {
			cells[draw(len(cells))] = '0' + byte(robot)
		}
		f.Cells = string(cells)
		if right(f) {
			return f
		}
	}
}

// Inside is the cells of a floor that are no walls.
func Inside(f api.Floor) []int {
	var cells []int
	for cell := range len(f.Cells) {
		if f.Cells[cell] != '#' {
			cells = append(cells, cell)
		}
	}
	return cells
}

// Wrong is floors that are not right.
func Wrong() []api.Floor {
	return []api.Floor{
		{},
		{W: 2, H: 1, Cells: "00"},
		{W: 2, H: 1, Cells: "aa"},
		{W: 3, H: 1, Cells: "a0a"},
		{W: 3, H: 1, Cells: "0a2"},
		{W: 4, H: 1, Cells: "0aa2"},
		{W: 2, H: 2, Cells: "0aA#"},
		{W: 2, H: 2, Cells: "0aa"},
		{W: 2, H: 2, Cells: "0aaaa"},
		{W: 0, H: 0, Cells: "0aa"},
		{W: -3, H: -1, Cells: "0aa"},
		{W: 17, H: 1, Cells: "0" + strings.Repeat("a", 16)},
		{W: 1, H: 17, Cells: "0" + strings.Repeat("a", 16)},
		{W: math.MaxInt, H: math.MinInt, Cells: "0aa"},
	}
}

// Full is the text of the greatest floor without a wall, but for some beside the docks.
func Full() string {
	return "01234567########\n" + strings.Repeat(strings.Repeat("w", api.MaxSide)+"\n", api.MaxSide-1)
}

// Snake is the text of a floor with one way of lanes, that turns at each side, from the dock 0, the first cell, on.
func Snake() string {
	rows := []string{"0" + strings.Repeat("s", api.MaxSide-1)}
	for y := 1; y < api.MaxSide; y++ {
		switch y % 4 {
		case 0, 2:
			rows = append(rows, strings.Repeat("s", api.MaxSide))
		case 1:
			rows = append(rows, strings.Repeat("#", api.MaxSide-1)+"s")
		case 3:
			rows = append(rows, "s"+strings.Repeat("#", api.MaxSide-1))
		}
	}
	return strings.Join(rows, "\n")
}

// Go is an act that goes to a cell.
func Go(cell int) api.Act { return api.Act{Kind: api.ActGo, Cell: cell} }

// Lift is an act that lifts a pod at a cell.
func Lift(pod, cell int) api.Act { return api.Act{Kind: api.ActLift, Cell: cell, Pod: pod} }

// Drop is an act that drops a pod at a cell.
func Drop(pod, cell int) api.Act { return api.Act{Kind: api.ActDrop, Cell: cell, Pod: pod} }
