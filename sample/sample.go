// Package sample is what the tests of several packages try: numbers, orders of calls, bits, bytes, packets, cells, floors and acts. Nothing but tests calls it.
package sample

import (
	"math"
	"strconv"
	"strings"

	"carfax/api"
)

// Numbers is numbers below a bound that look mixed: the same ones for the same seed.
func Numbers(seed int) func(below int) int {
	n := uint32(seed)*2654435761 + 12345
	return func(below int) int {
		n = n*1664525 + 1013904223
		return int(n>>16) % below
	}
}

// Bytes is so many bytes that look mixed, other ones for another seed.
func Bytes(many, seed int) []byte {
	b := make([]byte, many)
	n := uint32(seed)*2654435761 + 1
	for i := range b {
		n = n*1664525 + 1013904223
		b[i] = byte(n >> 24)
	}
	return b
}

// Counts is numbers that may be laid as counts: small ones, and those about each power of two.
func Counts() []uint64 {
	var out []uint64
	for n := range uint64(1000) {
		out = append(out, n)
	}
	for k := 10; k < 64; k++ {
		p := uint64(1) << k
		out = append(out, p-2, p-1, p, p+1)
	}
	return append(out, math.MaxUint64-2, math.MaxUint64-1)
}

// PutText is the many lowest bits of a number as a text of 0 and 1, as they are laid.
func PutText(n uint64, many int) string {
	all := strconv.FormatUint(n, 2)
	all = strings.Repeat("0", 64-len(all)) + all
	return all[64-many:]
}

// CountText is a number as it is laid as a count, as a text of 0 and 1.
func CountText(n uint64) string {
	m := strconv.FormatUint(n+1, 2)
	return strings.Repeat("0", len(m)-1) + m
}

// BytesOf is the bytes of a text of 0 and 1, with 0 behind it up to a whole byte.
func BytesOf(text string) []byte {
	for len(text)%8 != 0 {
		text += "0"
	}
	var out []byte
	for ; text != ""; text = text[8:] {
		n, _ := strconv.ParseUint(text[:8], 2, 8)
		out = append(out, byte(n))
	}
	return out
}

// Short is a text as it is told in a failure: of a long one its beginning, and how long it is.
func Short(text string) string {
	if len(text) > 60 {
		return text[:60] + ".. of " + strconv.Itoa(len(text))
	}
	return text
}

// Spoil changes a list, and the room behind its length.
func Spoil[T any](l []T, with T) {
	l = l[:cap(l)]
	for i := range l {
		l[i] = with
	}
}

// Orders tries all lists of up to so many of some things, each behind the shorter ones with which it begins. The list's room is used again behind the call.
func Orders[T any](of []T, most int, try func(made []T)) {
	orders(of, make([]T, 0, most), most, try)
}

func orders[T any](of, made []T, most int, try func(made []T)) {
	try(made)
	if len(made) >= most {
		return
	}
	for _, one := range of {
		orders(of, append(made, one), most, try)
	}
}

// Network is packets under way.
type Network interface {
	Len() int
	Take(at int) ([]byte, bool)
	Peek(at int) ([]byte, bool)
}

// Comes is a packet that comes now, from any place of a network, and may come again; none at all now and then.
func Comes(n Network, draw func(below int) int) []byte {
	take := n.Take
	at := draw(n.Len() + 1)
	if draw(3) == 0 {
		take = n.Peek
	}
	b, _ := take(at)
	return b
}

// Outside is numbers that are no cell, robot or pod of any floor; some of them are one, if their lowest bits alone are looked at.
func Outside() []int {
	return []int{-1, -2, -64, -256, 256, 257, 1 << 16, 1 << 32, 1<<32 + 1, math.MinInt, math.MinInt + 1, math.MaxInt, math.MaxInt - 1}
}

// Floor is a mixed floor of sides up to side, that is 2 at least: lanes, with walls and docks among them. What is right is asked for, so that the tests of layer 3 can import this package, too.
func Floor(side int, draw func(below int) int, right func(f api.Floor) bool) api.Floor {
	for {
		f := api.Floor{W: 1 + draw(side), H: 1 + draw(side)}
		cells := make([]byte, f.W*f.H)
		for i := range cells {
			cells[i] = 'a' + byte(draw(api.MaxZones))
			if draw(4) == 0 {
				cells[i] = '#'
			}
		}
		for robot := range 1 + draw(api.MaxRobots) {
			cells[draw(len(cells))] = '0' + byte(robot)
		}
		f.Cells = string(cells)
		if right(f) {
			return f
		}
	}
}

// Inside is the cells of a floor that are no walls.
func Inside(f api.Floor) []int {
	var cells []int
	for cell := range len(f.Cells) {
		if f.Cells[cell] != '#' {
			cells = append(cells, cell)
		}
	}
	return cells
}

// Wrong is floors that are not right.
func Wrong() []api.Floor {
	return []api.Floor{
		{},
		{W: 2, H: 1, Cells: "00"},
		{W: 2, H: 1, Cells: "aa"},
		{W: 3, H: 1, Cells: "a0a"},
		{W: 3, H: 1, Cells: "0a2"},
		{W: 4, H: 1, Cells: "0aa2"},
		{W: 2, H: 2, Cells: "0aA#"},
		{W: 2, H: 2, Cells: "0aa"},
		{W: 2, H: 2, Cells: "0aaaa"},
		{W: 0, H: 0, Cells: "0aa"},
		{W: -3, H: -1, Cells: "0aa"},
		{W: 17, H: 1, Cells: "0" + strings.Repeat("a", 16)},
		{W: 1, H: 17, Cells: "0" + strings.Repeat("a", 16)},
		{W: math.MaxInt, H: math.MinInt, Cells: "0aa"},
	}
}

// Full is the text of the greatest floor without a wall, but for some beside the docks.
func Full() string {
	return "01234567########\n" + strings.Repeat(strings.Repeat("w", api.MaxSide)+"\n", api.MaxSide-1)
}

// Snake is the text of a floor with one way of lanes, that turns at each side, from the dock 0, the first cell, on.
func Snake() string {
	rows := []string{"0" + strings.Repeat("s", api.MaxSide-1)}
	for y := 1; y < api.MaxSide; y++ {
		switch y % 4 {
		case 0, 2:
			rows = append(rows, strings.Repeat("s", api.MaxSide))
		case 1:
			rows = append(rows, strings.Repeat("#", api.MaxSide-1)+"s")
		case 3:
			rows = append(rows, "s"+strings.Repeat("#", api.MaxSide-1))
		}
	}
	return strings.Join(rows, "\n")
}

// Go is an act that goes to a cell.
func Go(cell int) api.Act { return api.Act{Kind: api.ActGo, Cell: cell} }

// Lift is an act that lifts a pod at a cell.
func Lift(pod, cell int) api.Act { return api.Act{Kind: api.ActLift, Cell: cell, Pod: pod} }

// Drop is an act that drops a pod at a cell.
func Drop(pod, cell int) api.Act { return api.Act{Kind: api.ActDrop, Cell: cell, Pod: pod} }
