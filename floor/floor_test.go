package floor

import (
	"math"
	"slices"
	"strconv"
	"strings"
	"testing"

	"carfax/api"
	"carfax/sample"
)

// The tests hold the package against slow answers, worked out on rows, by places x and y, as the chapter tells them.

const whole = "0aab1\n#c#d#\n2eeff\n"

type place struct{ x, y int }

// grid is a floor as rows; what is beyond them is as a wall.
type grid []string

func gridOf(f api.Floor) grid {
	var g grid
	for s := f.Cells; s != ""; s = s[f.W:] {
		g = append(g, s[:f.W])
	}
	return g
}

func (g grid) at(p place) byte {
	if p.y < 0 || p.y >= len(g) || p.x < 0 || p.x >= len(g[0]) {
		return '#'
	}
	return g[p.y][p.x]
}

// around is the places above, to the right, below, to the left, whether there are such or not.
func around(p place) []place {
	return []place{{p.x, p.y - 1}, {p.x + 1, p.y}, {p.x, p.y + 1}, {p.x - 1, p.y}}
}

func (g grid) places(kind string) []place {
	var out []place
	for y, row := range g {
		for x := range len(row) {
			if strings.IndexByte(kind, row[x]) >= 0 {
				out = append(out, place{x, y})
			}
		}
	}
	return out
}

const (
	laneBytes = "abcdefghijklmnopqrstuvwxyz"
	dockBytes = "01234567"
)

func isOf(c byte, kind string) bool { return strings.IndexByte(kind, c) >= 0 }

// slowRight is asked of floors whose sides fit alone; it spreads a mark over lanes until nothing is marked any more.
func slowRight(g grid) bool {
	if slices.ContainsFunc(g, hasOther) {
		return false
	}
	docks, lanes := g.places(dockBytes), g.places(laneBytes)
	if len(docks) == 0 || len(lanes) == 0 {
		return false
	}
	all := strings.Join(g, "")
	for i := range len(dockBytes) {
		want := 0
		if i < len(docks) {
			want = 1
		}
		if strings.Count(all, dockBytes[i:i+1]) != want {
			return false
		}
	}
	for _, p := range docks {
		if !slices.ContainsFunc(around(p), func(q place) bool { return isOf(g.at(q), laneBytes) }) {
			return false
		}
	}
	return len(slowReach(g, lanes[0])) == len(lanes)
}

// slowReach is the lanes that can be reached from a place through lanes.
func slowReach(g grid, from place) map[place]bool {
	marked := map[place]bool{}
	mark := func(p place) bool {
		if isOf(g.at(p), laneBytes) && !marked[p] {
			marked[p] = true
			return true
		}
		return false
	}
	if !mark(from) {
		for _, q := range around(from) {
			mark(q)
		}
	}
	for again := true; again; {
		again = false
		for _, p := range g.places(laneBytes) {
			for _, q := range around(p) {
				if marked[p] && mark(q) {
					again = true
				}
			}
		}
	}
	return marked
}

// slowParse is a text's floor, or its wrong row, with the rows cut by hand.
func slowParse(s string) (api.Floor, int, api.Errno) {
	rows := grid{""}
	for i := range len(s) {
		switch {
		case s[i] != 10:
			rows[len(rows)-1] += s[i : i+1]
		case i < len(s)-1:
			rows = append(rows, "")
		}
	}
	for i, row := range rows {
		if row == "" || i >= 16 || len(row) != len(rows[0]) || len(row) > 16 || hasOther(row) {
			return api.Floor{}, i, api.ErrFloor
		}
	}
	if !slowRight(rows) {
		return api.Floor{}, len(rows), api.ErrFloor
	}
	return api.Floor{W: len(rows[0]), H: len(rows), Cells: strings.Join(rows, "")}, 0, api.OK
}

// hasOther tells whether a row has a byte that is none.
func hasOther(row string) bool {
	for i := range len(row) {
		if !isOf(row[i], "#"+laneBytes+dockBytes) {
			return true
		}
	}
	return false
}

func parsed(t *testing.T, s string) api.Floor {
	t.Helper()
	f, row, e := Parse(s)
	if e != api.OK || row != 0 {
		t.Fatalf("Parse(%q): row %d, error %d", s, row, e)
	}
	return f
}

func wantWrong(t *testing.T, s string, row int) {
	t.Helper()
	f, got, e := Parse(s)
	if e != api.ErrFloor || got != row || f != (api.Floor{}) {
		t.Errorf("Parse(%q): %v, row %d, error %d, want row %d", s, f, got, e, row)
	}
}

func wantCells(t *testing.T, what string, got, want []int) {
	t.Helper()
	if !slices.Equal(got, want) {
		t.Errorf("%s: %v, want %v", what, got, want)
	}
}

// wantNothing: of a floor that is not right, all answers are as of none.
func wantNothing(t *testing.T, f api.Floor) {
	t.Helper()
	if Right(f) || Text(f) != "" || Robots(f) != 0 || len(Lanes(f)) != 0 {
		t.Errorf("%v: right %v, text %q, robots %d, lanes %v", f, Right(f), Text(f), Robots(f), Lanes(f))
	}
	for _, i := range append(odd(), 0, 1, 2, 3, 4) {
		cell, isDock := Dock(f, i)
		zone, isLane := Zone(f, i)
		if cell != 0 || isDock || zone != 0 || isLane || len(Near(f, i)) != 0 {
			t.Errorf("%v: of %d: dock %d %v, zone %d %v, near %v", f, i, cell, isDock, zone, isLane, Near(f, i))
		}
	}
}

// odd is numbers that are no robot and no cell of any floor; some of them are one, if their lowest bits alone are looked at.
func odd() []int {
	return []int{-1, -2, -5, -256, 256, 257, 512, 1 << 16, 1 << 32, 1<<32 + 1, math.MinInt, math.MinInt + 1, math.MaxInt, math.MaxInt - 1}
}

// texts hands on each text of so many bytes out of those given.
func texts(kind string, many int, use func(s string)) {
	if many == 0 {
		use("")
		return
	}
	texts(kind, many-1, func(s string) {
		for i := range len(kind) {
			use(s + kind[i:i+1])
		}
	})
}

// mixed is floors of all sides, other ones for another seed: most of lanes, with walls and docks among them.
func mixed(seed int) api.Floor {
	draw := sample.Numbers(seed)
	f := api.Floor{W: 1 + draw(api.MaxSide), H: 1 + draw(api.MaxSide)}
	cells := make([]byte, f.W*f.H)
	for i := range cells {
		cells[i] = laneBytes[draw(26)]
		if draw(5) == 0 {
			cells[i] = '#'
		}
	}
	for robot := range 1 + draw(api.MaxRobots) {
		cells[draw(len(cells))] = dockBytes[robot]
	}
	f.Cells = string(cells)
	return f
}

// full is the greatest floor: all sides, all docks, all zones.
func full() string {
	rows := []string{"01234567########"}
	for y := 1; y < api.MaxSide; y++ {
		rows = append(rows, laneBytes[y%10:y%10+16])
	}
	return strings.Join(rows, "\n") + "\n"
}

// snake is a floor of one way of lanes, that turns at each side: from its first to its last all of them are gone through.
func snake() string {
	var rows []string
	for y := range api.MaxSide - 1 {
		switch y % 4 {
		case 0, 2:
			rows = append(rows, strings.Repeat("s", api.MaxSide))
		case 1:
			rows = append(rows, strings.Repeat("#", api.MaxSide-1)+"s")
		case 3:
			rows = append(rows, "s"+strings.Repeat("#", api.MaxSide-1))
		}
	}
	return strings.Join(rows, "\n") + "\n0" + strings.Repeat("#", api.MaxSide-1)
}

// P3.1

func TestRightOfAllSmallFloors(t *testing.T) {
	right := 0
	for _, side := range []place{{1, 1}, {1, 2}, {2, 1}, {1, 3}, {3, 1}, {2, 2}, {1, 4}, {4, 1}, {3, 2}, {2, 3}} {
		texts("#az012", side.x*side.y, func(s string) {
			f := api.Floor{W: side.x, H: side.y, Cells: s}
			want := slowRight(gridOf(f))
			if want {
				right++
			}
			if Right(f) != want {
				t.Errorf("Right(%v): %v", f, !want)
			}
		})
	}
	if right < 1000 {
		t.Errorf("only %d right floors were seen", right)
	}
}

func TestRightOfMixedFloors(t *testing.T) {
	right := 0
	for seed := range 3000 {
		f := mixed(seed)
		want := slowRight(gridOf(f))
		if want {
			right++
		}
		if Right(f) != want {
			t.Errorf("Right(%v): %v", f, !want)
		}
	}
	if right < 100 || right > 2900 {
		t.Errorf("%d of 3000 floors were right", right)
	}
}

func TestRightAsksForEachByte(t *testing.T) {
	for c := range 256 {
		known := isOf(byte(c), "#"+laneBytes) || c >= '1' && c <= '7'
		// Docks of all numbers below stand there, so that a dock may be added.
		docks := "0"
		for d := '1'; int(d) < c && d <= '7'; d++ {
			docks += string(d)
		}
		f := upright(api.Floor{W: len(docks) + 1, Cells: docks + string([]byte{byte(c)})})
		if Right(f) != known {
			t.Errorf("Right with the byte %d: %v", c, Right(f))
		}
	}
}

// upright is a floor of a row, and a row of lanes below it.
func upright(f api.Floor) api.Floor {
	return api.Floor{W: f.W, H: 2, Cells: f.Cells + strings.Repeat("q", f.W)}
}

func TestRightAsksForTheSides(t *testing.T) {
	for _, f := range []api.Floor{
		{},
		{W: 0, H: 2, Cells: ""},
		{W: 2, H: 0, Cells: ""},
		{W: 0, H: 0, Cells: "0a"},
		{W: -2, H: -1, Cells: "0a"},
		{W: -1, H: -2, Cells: "0a"},
		{W: 2, H: -1, Cells: "0a"},
		{W: 17, H: 1, Cells: "0" + strings.Repeat("a", 16)},
		{W: 1, H: 17, Cells: "0" + strings.Repeat("a", 16)},
		{W: 1 << 32, H: 1 << 32, Cells: ""},
		{W: 1<<62 + 1, H: 4, Cells: "0aaa"},
		{W: math.MaxInt, H: math.MaxInt, Cells: "0"},
		{W: math.MinInt, H: math.MinInt, Cells: "0a"},
		{W: math.MinInt, H: -1, Cells: "0a"},
		{W: math.MaxInt, H: 1, Cells: "0a"},
	} {
		wantNothing(t, f)
	}
	for side := 2; side <= api.MaxSide; side++ {
		cells := "0" + strings.Repeat("a", side-1)
		if !Right(api.Floor{W: side, H: 1, Cells: cells}) || !Right(api.Floor{W: 1, H: side, Cells: cells}) {
			t.Errorf("a floor of %d cells is not right", side)
		}
	}
}

func TestRightAsksForTheCells(t *testing.T) {
	for _, cells := range []string{"", "0", "0a", "0aa", "0aaaa", "0aaaaa", "0aa\n", "0aa\xe4", "0a\na", "\xff\xff\xff\xff"} {
		wantNothing(t, api.Floor{W: 2, H: 2, Cells: cells})
	}
	if !Right(api.Floor{W: 2, H: 2, Cells: "0aaa"}) {
		t.Error("0aaa of 2 times 2 is not right")
	}
}

func TestRightAsksForDocks(t *testing.T) {
	for _, x := range []struct {
		cells string
		right bool
	}{
		{"aaa", false}, // no dock
		{"a0a", false}, // lanes apart
		{"0a1", true},
		{"1a0", true},
		{"0a0", false}, // twice
		{"1a1", false},
		{"0a2", false}, // 1 is missing
		{"1a#", false}, // 0 is missing
		{"7a#", false},
		{"01a", false}, // no lane beside 0
		{"0#a", false},
		{"0a8", false},
		{"0a9", false},
		{"0a/", false}, // the byte ahead of 0
		{"0a:", false},
	} {
		if Right(api.Floor{W: 3, H: 1, Cells: x.cells}) != x.right || Right(api.Floor{W: 1, H: 3, Cells: x.cells}) != x.right {
			t.Errorf("%q: want right %v", x.cells, x.right)
		}
	}
}

func TestRightUpToEightDocks(t *testing.T) {
	for many := 1; many <= 8; many++ {
		f := upright(api.Floor{W: many, Cells: dockBytes[:many]})
		if !Right(f) || Robots(f) != many {
			t.Errorf("%d docks: right %v, robots %d", many, Right(f), Robots(f))
		}
		for robot := range many {
			without := strings.Replace(f.Cells, dockBytes[robot:robot+1], "#", 1)
			if right := Right(api.Floor{W: many, H: 2, Cells: without}); right != (robot == many-1 && many > 1) {
				t.Errorf("%d docks without %d: right %v", many, robot, right)
			}
		}
	}
	for robot := range 8 {
		wantNothing(t, upright(api.Floor{W: 9, Cells: dockBytes + dockBytes[robot:robot+1]}))
	}
	wantNothing(t, upright(api.Floor{W: 16, Cells: dockBytes + dockBytes}))
	wantNothing(t, upright(api.Floor{W: 16, Cells: strings.Repeat("0", 16)}))
}

func TestRightAsksForLanes(t *testing.T) {
	for _, s := range []string{"0", "01", "0#", "#", "0#a", "a0b", "0a#b", "0ab\n###\n1cd", "0a\nb1", "0a1\n#2#\n3b4", "0a#\n##b"} {
		rows := strings.Split(s, "\n")
		wantNothing(t, api.Floor{W: len(rows[0]), H: len(rows), Cells: strings.Join(rows, "")})
	}
	// The end of a row is not beside the beginning of the next one.
	wantNothing(t, api.Floor{W: 3, H: 2, Cells: "0aab##"})
	wantNothing(t, api.Floor{W: 3, H: 2, Cells: "##0a##"})
	if !Right(api.Floor{W: 3, H: 2, Cells: "0aa##b"}) {
		t.Error("0aa ##b is not right")
	}
}

func TestRightOfTheGreatest(t *testing.T) {
	for _, s := range []string{full(), snake()} {
		f := parsed(t, s)
		if !Right(f) || f.W != 16 || f.H != 16 {
			t.Errorf("%q is not right", s)
		}
	}
	f := parsed(t, snake())
	for i := 1; i < strings.LastIndexByte(f.Cells, 's')-16; i++ {
		if f.Cells[i] == 's' {
			wantNothing(t, api.Floor{W: 16, H: 16, Cells: f.Cells[:i] + "#" + f.Cells[i+1:]})
		}
	}
}

// P3.2

func TestParseExamples(t *testing.T) {
	if f := parsed(t, "0a\n#b"); f != (api.Floor{W: 2, H: 2, Cells: "0a#b"}) {
		t.Errorf("0a #b: %v", f)
	}
	wantWrong(t, "0a\nb1", 2)
	if f := parsed(t, whole); f != (api.Floor{W: 5, H: 3, Cells: "0aab1#c#d#2eeff"}) {
		t.Errorf("%q: %v", whole, f)
	}
}

func TestParseOfTheEnd(t *testing.T) {
	for _, s := range []string{"0a", "0a\n", "0\na", "0\na\n"} {
		if f := parsed(t, s); f.Cells != "0a" || f.W*f.H != 2 {
			t.Errorf("%q: %v", s, f)
		}
	}
	wantWrong(t, "", 0)
	wantWrong(t, "\n", 0)
	wantWrong(t, "\n\n", 0)
	wantWrong(t, "0a\n\n", 1)
	wantWrong(t, "0a\n\n\n", 1)
	wantWrong(t, "0a\n\n0a", 1)
	wantWrong(t, "\n0a\n", 0)
	wantWrong(t, "0a\n#b\n\n", 2)
}

func TestParseTellsTheFirstWrongRow(t *testing.T) {
	wide := strings.Repeat("a", 17)
	for _, x := range []struct {
		s   string
		row int
	}{
		{"0a\na\n", 1},
		{"0a\naaa\n", 1},
		{"0a\naa\na\n\nA", 2},
		{"0a\nA", 1},
		{"0a\na", 1},
		{"A\n0a", 0},
		{"0a\r\naa\r\n", 0},
		{"0a \naaa", 0},
		{"0\xc3\xa4\naaa", 0},
		{"0a\na\x00", 1},
		{"0a\n8a", 1},
		{"9a\n8a", 0},
		{"0`", 0},
		{"0{", 0},
		{"0/a", 0},
		{wide, 0},
		{wide + "\na", 0},
		{"0a\n" + wide, 1},
		{"0" + wide, 0},
		{strings.Repeat("a", 300), 0},
		// A wrong row is told ahead of what the whole is not.
		{"00\n11\nAA", 2},
		{"##\n#", 1},
	} {
		wantWrong(t, x.s, x.row)
	}
}

func TestParseTellsTheRowsOfAWrongWhole(t *testing.T) {
	for _, x := range []struct {
		s    string
		rows int
	}{
		{"0", 1}, {"a", 1}, {"#", 1}, {"00", 1}, {"1a", 1}, {"0a0\n", 1}, {"aa\n", 1}, {"0a#a\n", 1},
		{"0#\n#a\n", 2}, {"0a\n1#", 2}, {"0a\nb1\n", 2}, {"##\n##\n##", 3},
		{strings.Repeat("#\n", 15) + "0", 16}, {strings.Repeat("#\n", 16), 16},
	} {
		wantWrong(t, x.s, x.rows)
	}
}

func TestParseUpToSixteenRows(t *testing.T) {
	row := "0" + strings.Repeat("\na", 15)
	if f := parsed(t, row); f.W != 1 || f.H != 16 {
		t.Errorf("16 rows: %v", f)
	}
	if f := parsed(t, row+"\n"); f.W != 1 || f.H != 16 {
		t.Errorf("16 rows and a byte 10: %v", f)
	}
	for _, more := range []string{"\n\n", "\na", "\na\n", "\na\na", "\nA", "\na\n\n", "\naaa", strings.Repeat("\na", 500)} {
		wantWrong(t, row+more, 16)
	}
	wantWrong(t, "0a"+strings.Repeat("\na", 30), 1)
	wantWrong(t, strings.Repeat("#\n", 17), 16)
	wantWrong(t, strings.Repeat("#\n", 15)+"A\n#", 15)
	wantWrong(t, strings.Repeat("\n", 1<<20), 0)
	wantWrong(t, "0"+strings.Repeat("\n", 1<<20), 1)
	wantWrong(t, row+strings.Repeat("\n", 1<<20), 16)
}

func TestParseUpToSixteenCellsARow(t *testing.T) {
	row := "0" + strings.Repeat("a", 15)
	if f := parsed(t, row); f.W != 16 || f.H != 1 || f.Cells != row {
		t.Errorf("16 cells: %v", f)
	}
	wantWrong(t, row+"a", 0)
	wantWrong(t, row+"a\n"+row+"a", 0)
}

func TestParseOfAllShortTexts(t *testing.T) {
	right := 0
	for many := range 8 {
		texts("#a01\nA", many, func(s string) {
			f, row, e := Parse(s)
			wantF, wantRow, wantE := slowParse(s)
			if f != wantF || row != wantRow || e != wantE {
				t.Errorf("Parse(%q): %v %d %d, want %v %d %d", s, f, row, e, wantF, wantRow, wantE)
			}
			if e == api.OK {
				right++
			}
		})
	}
	if right < 500 {
		t.Errorf("only %d texts were of a floor", right)
	}
}

func TestText(t *testing.T) {
	for _, x := range []struct{ s, text string }{
		{"0a", "0a\n"}, {"0a\n", "0a\n"}, {"0\na", "0\na\n"}, {"0a\n#b", "0a\n#b\n"}, {whole, whole}, {full(), full()}, {snake(), snake() + "\n"},
	} {
		if got := Text(parsed(t, x.s)); got != x.text {
			t.Errorf("Text of %q: %q", x.s, got)
		}
	}
	for _, f := range []api.Floor{{}, {W: 2, H: 1, Cells: "00"}, {W: 1, H: 1, Cells: "0a"}, {W: 3, H: 1, Cells: "0a"}, {W: 2, H: 2, Cells: "0ab1"}} {
		if got := Text(f); got != "" {
			t.Errorf("Text of %v: %q", f, got)
		}
	}
}

// P3.3

func TestOfTheExample(t *testing.T) {
	f := parsed(t, "0a\n#b")
	if Robots(f) != 1 {
		t.Errorf("Robots: %d", Robots(f))
	}
	if cell, ok := Dock(f, 0); cell != 0 || !ok {
		t.Errorf("Dock: %d %v", cell, ok)
	}
	wantCells(t, "Lanes", Lanes(f), []int{1, 3})
	for cell, want := range map[int]int{1: 0, 3: 1} {
		if zone, ok := Zone(f, cell); zone != want || !ok {
			t.Errorf("Zone of %d: %d %v", cell, zone, ok)
		}
	}
	wantCells(t, "Near of 1", Near(f, 1), []int{3, 0})
	wantCells(t, "Near of 0", Near(f, 0), []int{1})
	wantCells(t, "Near of a wall", Near(f, 2), nil)
}

func TestNearTellsAllSidesInOrder(t *testing.T) {
	f := parsed(t, "0ab\ncde\nfg1")
	for cell, want := range [][]int{{1, 3}, {2, 4, 0}, {5, 1}, {0, 4, 6}, {1, 5, 7, 3}, {2, 8, 4}, {3, 7}, {4, 8, 6}, {5, 7}} {
		wantCells(t, "Near of "+strconv.Itoa(cell), Near(f, cell), want)
	}
	// Docks are near to each other, too.
	wantCells(t, "Near of a dock", Near(parsed(t, "01\nab"), 1), []int{3, 0})
	wantCells(t, "Near of a cell alone in its row", Near(parsed(t, "0\na\nb"), 1), []int{0, 2})
}

func TestAskedOfWhatIsNotThere(t *testing.T) {
	for _, s := range []string{"0a", whole, full()} {
		f := parsed(t, s)
		cells := f.W * f.H
		for _, i := range append(odd(), cells, cells+1, -cells) {
			if cell, ok := Dock(f, i); cell != 0 || ok {
				t.Errorf("Dock of %d: %d %v", i, cell, ok)
			}
			if zone, ok := Zone(f, i); zone != 0 || ok {
				t.Errorf("Zone of %d: %d %v", i, zone, ok)
			}
			wantCells(t, "Near of "+strconv.Itoa(i), Near(f, i), nil)
		}
		for i := Robots(f); i < 300; i++ {
			if cell, ok := Dock(f, i); cell != 0 || ok {
				t.Errorf("Dock of %d: %d %v", i, cell, ok)
			}
		}
	}
}

// wantAll holds all that is told of a right floor against its rows.
func wantAll(t *testing.T, f api.Floor) {
	t.Helper()
	g := gridOf(f)
	number := func(p place) int { return p.y*len(g[0]) + p.x }
	docks := g.places(dockBytes)
	if Robots(f) != len(docks) {
		t.Errorf("Robots of %v: %d", f, Robots(f))
	}
	for _, p := range docks {
		robot := int(g.at(p) - '0')
		if cell, ok := Dock(f, robot); cell != number(p) || !ok {
			t.Errorf("Dock of %d of %v: %d %v", robot, f, cell, ok)
		}
	}
	var lanes []int
	for cell := range f.W * f.H {
		p := place{cell % f.W, cell / f.W}
		zone, ok := Zone(f, cell)
		if isOf(g.at(p), laneBytes) {
			lanes = append(lanes, cell)
			if zone != int(g.at(p)-'a') || !ok {
				t.Errorf("Zone of %d of %v: %d %v", cell, f, zone, ok)
			}
		} else if zone != 0 || ok {
			t.Errorf("Zone of %d of %v: %d %v", cell, f, zone, ok)
		}
		var near []int
		for _, q := range around(p) {
			if g.at(p) != '#' && g.at(q) != '#' {
				near = append(near, number(q))
			}
		}
		wantCells(t, "Near of "+strconv.Itoa(cell)+" of "+Text(f), Near(f, cell), near)
	}
	wantCells(t, "Lanes of "+Text(f), Lanes(f), lanes)
}

func TestAllOfSmallFloors(t *testing.T) {
	for _, side := range []place{{2, 1}, {1, 2}, {3, 1}, {1, 3}, {2, 2}, {3, 2}, {2, 3}} {
		texts("#az01", side.x*side.y, func(s string) {
			f := api.Floor{W: side.x, H: side.y, Cells: s}
			if slowRight(gridOf(f)) {
				wantAll(t, f)
			} else if side.x*side.y <= 4 {
				wantNothing(t, f)
			}
		})
	}
}

func TestAllOfGreatFloors(t *testing.T) {
	wantAll(t, parsed(t, whole))
	wantAll(t, parsed(t, full()))
	wantAll(t, parsed(t, snake()))
	for seed := range 300 {
		if f := mixed(seed); Right(f) {
			wantAll(t, f)
		} else {
			wantNothing(t, f)
		}
	}
}

func TestEachZone(t *testing.T) {
	f := parsed(t, "0"+laneBytes[:13]+"\n"+"#"+laneBytes[13:])
	for i := range 26 {
		cell := strings.IndexByte(f.Cells, laneBytes[i])
		if zone, ok := Zone(f, cell); zone != i || !ok {
			t.Errorf("Zone of %c: %d %v", laneBytes[i], zone, ok)
		}
	}
}

func TestAnswersAreTheCallers(t *testing.T) {
	f := parsed(t, whole)
	for _, ask := range []func() []int{
		func() []int { return Near(f, 1) },
		func() []int { return Near(f, 6) },
		func() []int { return Lanes(f) },
	} {
		first := ask()
		want := slices.Clone(first)
		second := ask()
		clear(first)
		_ = append(first[:1], 99, 99)
		wantCells(t, "an answer behind a change of another one", second, want)
		wantCells(t, "a later answer", ask(), want)
	}
	if f.Cells != strings.ReplaceAll(whole, "\n", "") {
		t.Errorf("the floor is another one: %v", f)
	}
}

// P3.4

func TestATextIsParsedAsItsFloor(t *testing.T) {
	right := 0
	hold := func(f api.Floor) {
		if !Right(f) {
			return
		}
		right++
		if got, row, e := Parse(Text(f)); got != f || row != 0 || e != api.OK {
			t.Errorf("Parse(%q): %v %d %d, want %v", Text(f), got, row, e, f)
		}
	}
	for _, side := range []place{{2, 1}, {1, 2}, {2, 2}, {3, 1}, {1, 3}, {3, 2}, {2, 3}} {
		texts("#az01", side.x*side.y, func(s string) { hold(api.Floor{W: side.x, H: side.y, Cells: s}) })
	}
	for seed := range 1000 {
		hold(mixed(seed))
	}
	hold(parsed(t, full()))
	hold(parsed(t, snake()))
	if right < 1000 {
		t.Errorf("only %d right floors were seen", right)
	}
}

// P3.5

// reached is the cells that can be come to from one, by what is near, on through lanes alone.
func reached(f api.Floor, from int) map[int]bool {
	seen := map[int]bool{}
	for work := Near(f, from); len(work) > 0; work = work[1:] {
		if _, lane := Zone(f, work[0]); lane && !seen[work[0]] {
			seen[work[0]] = true
			work = append(work, Near(f, work[0])...)
		}
	}
	return seen
}

func wantWays(t *testing.T, f api.Floor) {
	t.Helper()
	for cell := range f.W * f.H {
		for _, other := range Near(f, cell) {
			if !slices.Contains(Near(f, other), cell) {
				t.Errorf("%q: %d is near to %d, but not back", Text(f), other, cell)
			}
		}
	}
	for robot := range Robots(f) {
		dock, _ := Dock(f, robot)
		seen := reached(f, dock)
		for _, lane := range Lanes(f) {
			if !seen[lane] {
				t.Errorf("%q: the lane %d is not reached from the dock %d", Text(f), lane, dock)
			}
		}
	}
}

func TestNearBothWaysAndAllLanesReached(t *testing.T) {
	right := 0
	hold := func(f api.Floor) {
		if Right(f) {
			right++
			wantWays(t, f)
		}
	}
	for _, side := range []place{{2, 1}, {1, 2}, {2, 2}, {3, 1}, {1, 3}, {3, 2}, {2, 3}} {
		texts("#a01", side.x*side.y, func(s string) { hold(api.Floor{W: side.x, H: side.y, Cells: s}) })
	}
	for seed := range 100 {
		hold(mixed(seed))
	}
	for _, s := range []string{whole, full(), snake()} {
		hold(parsed(t, s))
	}
	if right < 100 {
		t.Errorf("only %d right floors were seen", right)
	}
}
