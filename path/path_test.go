package path

import (
	"slices"
	"testing"

	"carfax/api"
	"carfax/floor"
	"carfax/sample"
)

// The tests hold the package against slow answers, worked out on rows, by places x and y, as the chapter tells them.

const (
	whole = "0aab1\n#c#d#\n2eeff\n"
	// The cells 0 and 2 of it would be two steps apart, if the dock between them could be gone through.
	through = "a0b\nc#d\nefg\n"
)

type place struct{ x, y int }

// slow is a floor as rows, with what is blocked.
type slow struct {
	rows    []string
	blocked []int
}

func slowOf(f api.Floor, blocked []int) slow {
	s := slow{blocked: blocked}
	for cells := f.Cells; cells != ""; cells = cells[f.W:] {
		s.rows = append(s.rows, cells[:f.W])
	}
	return s
}

func (s slow) cells() int { return len(s.rows) * len(s.rows[0]) }

func (s slow) at(p place) byte {
	if p.y < 0 || p.y >= len(s.rows) || p.x < 0 || p.x >= len(s.rows[0]) {
		return '#'
	}
	return s.rows[p.y][p.x]
}

func (s slow) place(cell int) place { return place{cell % len(s.rows[0]), cell / len(s.rows[0])} }

func (s slow) cell(p place) int { return p.y*len(s.rows[0]) + p.x }

func (s slow) isLane(cell int) bool {
	c := s.at(s.place(cell))
	return c >= 'a' && c <= 'z'
}

// out is the cells to which a step goes out of a cell, of a way that begins at from: above, to the right, below, to the left.
func (s slow) out(from, cell int) []int {
	if cell != from && !s.isLane(cell) {
		return nil
	}
	var out []int
	p := s.place(cell)
	for _, q := range []place{{p.x, p.y - 1}, {p.x + 1, p.y}, {p.x, p.y + 1}, {p.x - 1, p.y}} {
		if s.at(q) != '#' && !slices.Contains(s.blocked, s.cell(q)) {
			out = append(out, s.cell(q))
		}
	}
	return out
}

// dist makes ways shorter until none can be made so any more.
func (s slow) dist(from int) []int {
	dist := make([]int, s.cells())
	for i := range dist {
		dist[i] = -1
	}
	dist[from] = 0
	for again := true; again; {
		again = false
		for cell, far := range dist {
			if far < 0 {
				continue
			}
			for _, to := range s.out(from, cell) {
				if dist[to] < 0 || dist[to] > far+1 {
					dist[to] = far + 1
					again = true
				}
			}
		}
	}
	return dist
}

// way is the first of the ways of so many steps from a cell to another one, all of them tried in order.
func (s slow) way(from, at, to, many int) ([]int, bool) {
	if many == 0 {
		return nil, at == to
	}
	for _, cell := range s.out(from, at) {
		if rest, is := s.way(from, cell, to, many-1); is {
			return append([]int{cell}, rest...), true
		}
	}
	return nil, false
}

// find tries ways of no steps, of one, and so on.
func (s slow) find(from, to int) ([]int, api.Errno) {
	for many := range s.cells() {
		if way, is := s.way(from, from, to, many); is {
			return way, api.OK
		}
	}
	return nil, api.ErrNone
}

// farFind goes on by the first step behind which the rest is as long as it must be: for floors that are too great to try all ways.
func (s slow) farFind(from, to int) ([]int, api.Errno) {
	left := s.dist(from)[to]
	if left < 0 {
		return nil, api.ErrNone
	}
	var way []int
	for at := from; left > 0; left-- {
		out := s.out(from, at)
		next := slices.IndexFunc(out, func(cell int) bool {
			return cell == to && left == 1 || s.isLane(cell) && s.dist(cell)[to] == left-1
		})
		at = out[next]
		way = append(way, at)
	}
	return way, api.OK
}

func (s slow) is(from int, way []int) bool {
	at := from
	for _, cell := range way {
		if !slices.Contains(s.out(from, at), cell) {
			return false
		}
		at = cell
	}
	return true
}

func parsed(t *testing.T, s string) api.Floor {
	t.Helper()
	f, row, e := floor.Parse(s)
	if e != api.OK {
		t.Fatalf("Parse(%q): row %d, error %d", s, row, e)
	}
	return f
}

// someOf is up to so many cells of a floor, walls and docks too, some of them twice, and numbers that are none.
func someOf(f api.Floor, many int, draw func(below int) int) []int {
	var cells []int
	for range draw(many + 1) {
		cells = append(cells, draw(len(f.Cells)))
	}
	if draw(3) == 0 {
		cells = append(cells, sample.Outside()...)
	}
	if len(cells) > 0 && draw(3) == 0 {
		cells = append(cells, cells[0])
	}
	return cells
}

func wantDist(t *testing.T, f api.Floor, from int, blocked, want []int) {
	t.Helper()
	if got := Dist(f, from, blocked); !slices.Equal(got, want) {
		t.Errorf("%q: Dist from %d with %v blocked: %v, want %v", f.Cells, from, blocked, got, want)
	}
}

func wantWay(t *testing.T, f api.Floor, from, to int, blocked, want []int) {
	t.Helper()
	if got, e := Find(f, from, to, blocked); e != api.OK || !slices.Equal(got, want) {
		t.Errorf("%q: Find from %d to %d with %v blocked: %v, error %d, want %v", f.Cells, from, to, blocked, got, e, want)
	}
}

func wantError(t *testing.T, f api.Floor, from, to int, blocked []int, want api.Errno) {
	t.Helper()
	if got, e := Find(f, from, to, blocked); e != want || len(got) != 0 {
		t.Errorf("%q: Find from %d to %d with %v blocked: %v, error %d, want error %d", f.Cells, from, to, blocked, got, e, want)
	}
}

func wantIs(t *testing.T, f api.Floor, from int, way, blocked []int, want bool) {
	t.Helper()
	if Is(f, from, way, blocked) != want {
		t.Errorf("%q: Is from %d of %v with %v blocked: %v", f.Cells, from, way, blocked, !want)
	}
}

// P5.1

func TestDistOfTheExample(t *testing.T) {
	f := parsed(t, whole)
	wantDist(t, f, 0, nil, []int{0, 1, 2, 3, 4, -1, 2, -1, 4, -1, 4, 3, 4, 5, 6})
	wantDist(t, f, 0, []int{2}, []int{0, 1, -1, 7, 8, -1, 2, -1, 6, -1, 4, 3, 4, 5, 6})
}

func TestDistOfNothing(t *testing.T) {
	for _, f := range sample.Wrong() {
		for _, from := range append(sample.Outside(), 0, 1, 2) {
			wantDist(t, f, from, nil, nil)
		}
	}
	f := parsed(t, whole)
	for _, from := range append(sample.Outside(), 5, 7, 9, 15) {
		wantDist(t, f, from, nil, nil)
		wantDist(t, f, from, []int{from}, nil)
	}
}

func TestDistDoesNotGoThroughDocks(t *testing.T) {
	f := parsed(t, through)
	wantDist(t, f, 0, nil, []int{0, 1, 6, 1, -1, 5, 2, 3, 4})
	wantDist(t, f, 1, nil, []int{1, 0, 1, 2, -1, 2, 3, 4, 3})
	wantDist(t, f, 7, nil, []int{3, 4, 3, 2, -1, 2, 1, 0, 1})
	// Docks that stand beside each other: only that from which the way begins is left.
	g := parsed(t, "012\nabc\n")
	wantDist(t, g, 0, nil, []int{0, 1, 4, 1, 2, 3})
	wantDist(t, g, 0, []int{3}, []int{0, 1, -1, -1, -1, -1})
	wantDist(t, g, 1, []int{4}, []int{1, 0, 1, -1, -1, -1})
}

func TestDistOfABlockedBeginning(t *testing.T) {
	f := parsed(t, whole)
	for _, from := range sample.Inside(f) {
		wantDist(t, f, from, []int{from}, Dist(f, from, nil))
	}
}

func TestDistWithAllBlocked(t *testing.T) {
	f := parsed(t, whole)
	want := slices.Repeat([]int{-1}, len(f.Cells))
	want[3] = 0
	wantDist(t, f, 3, sample.Inside(f), want)
}

func TestDistWithBlockedThatAreNoCells(t *testing.T) {
	f := parsed(t, whole)
	blocked := append(sample.Outside(), 5, 7, 9, 15, 16)
	for _, from := range sample.Inside(f) {
		wantDist(t, f, from, blocked, Dist(f, from, nil))
		wantDist(t, f, from, []int{}, Dist(f, from, nil))
		wantDist(t, f, from, append(blocked, 2, 2, 2), Dist(f, from, []int{2}))
	}
}

func TestDistOnTheGreatestFloors(t *testing.T) {
	f := parsed(t, sample.Snake())
	want := 0
	d := Dist(f, 0, nil)
	for y := range api.MaxSide {
		for x := range api.MaxSide {
			cell := y*api.MaxSide + x
			if y%4 == 2 {
				cell = y*api.MaxSide + api.MaxSide - 1 - x
			}
			if f.Cells[cell] == '#' {
				continue
			}
			if d[cell] != want {
				t.Errorf("snake: Dist of %d is %d, want %d", cell, d[cell], want)
			}
			want++
		}
	}
	g := parsed(t, sample.Full())
	d = Dist(g, 255, nil)
	for cell, far := range d {
		apart := 15 - cell%16 + 15 - cell/16
		if g.Cells[cell] == '#' {
			apart = -1
		}
		if far != apart {
			t.Errorf("full: Dist of %d is %d, want %d", cell, far, apart)
		}
	}
}

func TestDistOnMixedFloors(t *testing.T) {
	for seed := range 300 {
		draw := sample.Numbers(seed)
		f := sample.Floor(6, draw, floor.Right)
		for _, from := range sample.Inside(f) {
			blocked := someOf(f, 4, draw)
			wantDist(t, f, from, blocked, slowOf(f, blocked).dist(from))
		}
	}
	for seed := range 30 {
		draw := sample.Numbers(seed)
		f := sample.Floor(api.MaxSide, draw, floor.Right)
		from, blocked := sample.Inside(f)[0], someOf(f, 20, draw)
		wantDist(t, f, from, blocked, slowOf(f, blocked).dist(from))
	}
}

// P5.2

func TestFindOfTheExample(t *testing.T) {
	f := parsed(t, whole)
	wantWay(t, f, 0, 4, nil, []int{1, 2, 3, 4})
	wantWay(t, f, 0, 4, []int{2}, []int{1, 6, 11, 12, 13, 8, 3, 4})
	wantWay(t, f, 0, 10, nil, []int{1, 6, 11, 10})
}

func TestFindOfWrongArguments(t *testing.T) {
	for _, f := range sample.Wrong() {
		for _, cell := range append(sample.Outside(), 0, 1, 2) {
			wantError(t, f, cell, cell, nil, api.ErrArg)
			wantError(t, f, 0, cell, nil, api.ErrArg)
			wantError(t, f, cell, 1, nil, api.ErrArg)
		}
	}
	f := parsed(t, whole)
	all := sample.Inside(f)
	for _, cell := range append(sample.Outside(), 5, 7, 9, 15) {
		for _, blocked := range [][]int{nil, {cell}, all} {
			wantError(t, f, cell, 0, blocked, api.ErrArg)
			wantError(t, f, 0, cell, blocked, api.ErrArg)
			wantError(t, f, cell, cell, blocked, api.ErrArg)
		}
	}
}

func TestFindOfTheSameCell(t *testing.T) {
	f := parsed(t, whole)
	for _, cell := range sample.Inside(f) {
		wantWay(t, f, cell, cell, nil, nil)
		wantWay(t, f, cell, cell, []int{cell}, nil)
		wantWay(t, f, cell, cell, sample.Inside(f), nil)
	}
}

func TestFindOfNoWay(t *testing.T) {
	f := parsed(t, whole)
	wantError(t, f, 0, 4, []int{4}, api.ErrNone)
	wantError(t, f, 0, 1, []int{1}, api.ErrNone)
	wantError(t, f, 0, 4, []int{1}, api.ErrNone)
	wantError(t, f, 0, 4, []int{2, 8}, api.ErrNone)
	wantError(t, f, 4, 10, []int{6, 12}, api.ErrNone)
	// The beginning alone may be blocked.
	wantWay(t, f, 0, 4, []int{0}, []int{1, 2, 3, 4})
	wantWay(t, f, 2, 3, []int{2}, []int{3})
}

func TestFindDoesNotGoThroughDocks(t *testing.T) {
	f := parsed(t, through)
	wantWay(t, f, 0, 2, nil, []int{3, 6, 7, 8, 5, 2})
	wantWay(t, f, 0, 1, nil, []int{1})
	wantWay(t, f, 1, 2, nil, []int{2})
	wantError(t, f, 0, 2, []int{7}, api.ErrNone)
	g := parsed(t, "012\nabc\n")
	wantWay(t, g, 0, 1, nil, []int{1})
	wantWay(t, g, 0, 2, nil, []int{3, 4, 5, 2})
	wantError(t, g, 0, 2, []int{4}, api.ErrNone)
}

func TestFindTakesTheFirstOfSeveral(t *testing.T) {
	// A square of lanes, whose middle is the cell 12; the dock is out of the way.
	f := parsed(t, "aaaaa\naaaaa\naaaaa\naaaaa\naaaaa\n0####\n")
	for _, x := range []struct {
		from, to int
		way      []int
	}{
		{12, 4, []int{7, 2, 3, 4}},      // above ahead of to the right
		{12, 24, []int{13, 14, 19, 24}}, // to the right ahead of below
		{12, 20, []int{17, 22, 21, 20}}, // below ahead of to the left
		{12, 0, []int{7, 2, 1, 0}},      // above ahead of to the left
		{0, 24, []int{1, 2, 3, 4, 9, 14, 19, 24}},
		{24, 0, []int{19, 14, 9, 4, 3, 2, 1, 0}},
		{4, 20, []int{9, 14, 19, 24, 23, 22, 21, 20}},
		{20, 4, []int{15, 10, 5, 0, 1, 2, 3, 4}},
	} {
		wantWay(t, f, x.from, x.to, nil, x.way)
	}
	// The first step is held ahead of the second one, though both ways have the same turns.
	wantWay(t, f, 12, 4, []int{2}, []int{7, 8, 3, 4})
	wantWay(t, f, 12, 4, []int{2, 8}, []int{13, 14, 9, 4})
	wantWay(t, f, 12, 4, []int{7}, []int{13, 8, 3, 4})
}

// TestFindOnSmallFloors tries all ways.
func TestFindOnSmallFloors(t *testing.T) {
	for seed := range 600 {
		draw := sample.Numbers(seed)
		f := sample.Floor(3, draw, floor.Right)
		blocked := someOf(f, 2, draw)
		s := slowOf(f, blocked)
		for _, from := range sample.Inside(f) {
			for _, to := range sample.Inside(f) {
				want, e := s.find(from, to)
				if e != api.OK {
					wantError(t, f, from, to, blocked, e)
				} else {
					wantWay(t, f, from, to, blocked, want)
				}
			}
		}
	}
}

func TestFindOnMixedFloors(t *testing.T) {
	found, none := 0, 0
	for seed := range 400 {
		draw := sample.Numbers(seed)
		f := sample.Floor(api.MaxSide, draw, floor.Right)
		cells, blocked := sample.Inside(f), someOf(f, len(f.Cells)/10, draw)
		from, to := cells[draw(len(cells))], cells[draw(len(cells))]
		want, e := slowOf(f, blocked).farFind(from, to)
		if e != api.OK {
			none++
			wantError(t, f, from, to, blocked, e)
		} else {
			found++
			wantWay(t, f, from, to, blocked, want)
		}
	}
	if found < 30 || none < 30 {
		t.Errorf("only %d ways were found, and %d not", found, none)
	}
}

func TestFindOnTheGreatestFloors(t *testing.T) {
	f := parsed(t, sample.Snake())
	way, e := Find(f, 0, 240, nil)
	if e != api.OK || len(way) != len(sample.Inside(f))-1 || !slowOf(f, nil).is(0, way) {
		t.Errorf("snake: %v, error %d", way, e)
	}
	for _, cell := range way {
		wantError(t, f, 0, 240, []int{cell}, api.ErrNone)
	}
	g := parsed(t, sample.Full())
	var want []int
	for cell := 17; cell < 32; cell++ {
		want = append(want, cell)
	}
	for cell := 47; cell < 256; cell += 16 {
		want = append(want, cell)
	}
	wantWay(t, g, 16, 255, nil, want)
}

// P5.3

func TestIsOfTheExample(t *testing.T) {
	f := parsed(t, whole)
	wantIs(t, f, 0, []int{1, 2, 3, 4}, nil, true)
	wantIs(t, f, 0, []int{1, 2, 3, 4}, []int{2}, false)
	wantIs(t, f, 0, []int{1, 6, 11, 12, 13, 8, 3, 4}, []int{2}, true)
}

func TestIsOfNoCells(t *testing.T) {
	f := parsed(t, whole)
	for _, from := range sample.Inside(f) {
		wantIs(t, f, from, nil, nil, true)
		wantIs(t, f, from, []int{}, sample.Inside(f), true)
	}
	for _, from := range append(sample.Outside(), 5, 7, 9, 15) {
		wantIs(t, f, from, nil, nil, false)
		wantIs(t, f, from, []int{from}, nil, false)
	}
	for _, f := range sample.Wrong() {
		for _, from := range append(sample.Outside(), 0, 1) {
			wantIs(t, f, from, nil, nil, false)
			wantIs(t, f, from, []int{1}, nil, false)
		}
	}
}

func TestIsNeedNotBeShortest(t *testing.T) {
	f := parsed(t, whole)
	wantIs(t, f, 0, []int{1, 6, 11, 12, 13, 8, 3, 4}, nil, true)
	wantIs(t, f, 2, []int{1, 2, 3, 2, 1, 2}, nil, true)
	wantIs(t, f, 2, []int{1, 0}, nil, true)
	var long []int
	for range 100000 {
		long = append(long, 1, 2)
	}
	wantIs(t, f, 2, long, nil, true)
	wantIs(t, f, 2, append(long, 2), nil, false)
}

func TestIsAsksForEachStep(t *testing.T) {
	f := parsed(t, whole)
	for _, way := range [][]int{
		{1}, {3}, {11}, {5}, {7}, {14}, // where it is, cells that are not beside it, walls
		{2, 2}, {6, 16}, {6, 11, 16}, {6, 11, 10, 9}, {2, 7}, {2, 4}, {2, 1, 3},
		{6, 11, 12, 13, 14, 15}, {6, 11, 10, 11}, {0, 1}, {2, 3, 4, 3},
	} {
		wantIs(t, f, 1, way[:len(way)-1], nil, true)
		wantIs(t, f, 1, way, nil, false)
	}
	for _, cell := range sample.Outside() {
		wantIs(t, f, 1, []int{cell}, nil, false)
		wantIs(t, f, 1, []int{2, cell}, nil, false)
		wantIs(t, f, 1, []int{2, cell, 2}, nil, false)
	}
	// The end of a row is not beside the beginning of the next one.
	g := parsed(t, "0ab\ncde\n")
	wantIs(t, g, 2, []int{3}, nil, false)
	wantIs(t, g, 3, []int{2}, nil, false)
}

func TestIsOfBlockedCells(t *testing.T) {
	f := parsed(t, whole)
	wantIs(t, f, 1, []int{2, 3}, []int{1}, true)
	wantIs(t, f, 1, []int{2, 1}, []int{1}, false)
	wantIs(t, f, 1, []int{2, 3}, []int{3}, false)
	wantIs(t, f, 1, []int{2, 3, 8}, []int{3}, false)
	wantIs(t, f, 1, []int{2, 3}, append(sample.Outside(), 7, 15), true)
}

func TestIsLeavesADockOnlyWhereTheWayBegins(t *testing.T) {
	f := parsed(t, through)
	wantIs(t, f, 1, []int{0}, nil, true)
	wantIs(t, f, 0, []int{1}, nil, true)
	wantIs(t, f, 0, []int{1, 2}, nil, false)
	wantIs(t, f, 0, []int{1, 0}, nil, false)
	wantIs(t, f, 1, []int{2, 1, 0, 1, 2}, nil, true)
	wantIs(t, f, 1, []int{2, 1, 0}, []int{1}, false)
	g := parsed(t, "012\nabc\n")
	wantIs(t, g, 0, []int{1}, nil, true)
	wantIs(t, g, 0, []int{1, 4}, nil, false)
	wantIs(t, g, 0, []int{1, 0}, nil, false)
	wantIs(t, g, 0, []int{3, 0, 1}, nil, true)
}

func TestIsOnMixedFloors(t *testing.T) {
	ways := 0
	for seed := range 4000 {
		draw := sample.Numbers(seed)
		f := sample.Floor(4, draw, floor.Right)
		blocked := someOf(f, 2, draw)
		s := slowOf(f, blocked)
		from := draw(len(f.Cells))
		var way []int
		for at := from; len(way) < draw(12); at = way[len(way)-1] {
			beside := []int{at - f.W, at + 1, at + f.W, at - 1}
			if out := s.out(from, at); len(out) > 0 && draw(8) > 0 {
				beside = out
			}
			way = append(way, beside[draw(len(beside))])
			if at = way[len(way)-1]; at < 0 || at >= len(f.Cells) {
				break
			}
		}
		want := f.Cells[from] != '#' && s.is(from, way)
		wantIs(t, f, from, way, blocked, want)
		if want && len(way) > 3 {
			ways++
		}
	}
	if ways < 100 {
		t.Errorf("only %d of the ways were ways of some length", ways)
	}
}

// P5.4

func TestWhatWasFoundIsAWayAsLongAsDistSays(t *testing.T) {
	for seed := range 150 {
		draw := sample.Numbers(seed)
		f := sample.Floor(7, draw, floor.Right)
		blocked := someOf(f, 4, draw)
		from := sample.Inside(f)[draw(len(sample.Inside(f)))]
		d := Dist(f, from, blocked)
		for _, to := range sample.Inside(f) {
			way, e := Find(f, from, to, blocked)
			if (e == api.OK) != (d[to] >= 0) || e == api.OK && len(way) != d[to] {
				t.Errorf("%q: from %d to %d: %v, error %d, but Dist says %d", f.Cells, from, to, way, e, d[to])
			}
			wantIs(t, f, from, way, blocked, true)
			if len(way) > 0 && way[len(way)-1] != to {
				t.Errorf("%q: from %d to %d: %v", f.Cells, from, to, way)
			}
			cells := append(slices.Clone(way), from)
			slices.Sort(cells)
			if e == api.OK && len(way) > 0 && len(slices.Compact(cells)) != len(way)+1 {
				t.Errorf("%q: a cell is twice in the way %v from %d", f.Cells, way, from)
			}
		}
	}
}

// P5.5

func TestWithMoreBlockedNoWayIsShorter(t *testing.T) {
	for seed := range 200 {
		draw := sample.Numbers(seed)
		f := sample.Floor(6, draw, floor.Right)
		from := sample.Inside(f)[draw(len(sample.Inside(f)))]
		var blocked []int
		less := Dist(f, from, nil)
		for range 5 {
			blocked = append(blocked, draw(len(f.Cells)))
			more := Dist(f, from, blocked)
			for cell := range more {
				if more[cell] >= 0 && (less[cell] < 0 || more[cell] < less[cell]) {
					t.Errorf("%q: from %d to %d: %d steps with %v blocked, %d with one less", f.Cells, from, cell, more[cell], blocked, less[cell])
				}
			}
			less = more
		}
	}
}

func TestNeighboursDifferByOneStepAtMost(t *testing.T) {
	for seed := range 200 {
		draw := sample.Numbers(seed)
		f := sample.Floor(8, draw, floor.Right)
		from := sample.Inside(f)[draw(len(sample.Inside(f)))]
		blocked := someOf(f, 4, draw)
		d := Dist(f, from, blocked)
		left := func(cell int) bool {
			_, lane := floor.Zone(f, cell)
			return cell == from || lane && !slices.Contains(blocked, cell)
		}
		for cell := range d {
			for _, other := range floor.Near(f, cell) {
				if left(cell) && left(other) && (d[cell]-d[other] > 1 || (d[cell] < 0) != (d[other] < 0)) {
					t.Errorf("%q: from %d: %d steps to %d, %d to %d", f.Cells, from, d[cell], cell, d[other], other)
				}
			}
		}
	}
}

// Rules 3 to 6

func TestWhatIsHandedInIsNeitherChangedNorRead(t *testing.T) {
	f := parsed(t, whole)
	// Behind the list's length stands what would block the way.
	blocked := []int{8, 8, 2, 1, 3}
	wantWay(t, f, 0, 4, blocked[:2], []int{1, 2, 3, 4})
	wantDist(t, f, 0, blocked[:2], Dist(f, 0, []int{8}))
	way := []int{1, 2, 7, 7}
	wantIs(t, f, 0, way[:2], blocked[:2], true)
	if !slices.Equal(blocked, []int{8, 8, 2, 1, 3}) || !slices.Equal(way, []int{1, 2, 7, 7}) {
		t.Errorf("changed: %v, %v", blocked, way)
	}
}

func TestAnswersAreTheCallers(t *testing.T) {
	f := parsed(t, whole)
	d, other := Dist(f, 0, nil), Dist(f, 0, nil)
	way, _ := Find(f, 0, 4, nil)
	second, _ := Find(f, 0, 4, nil)
	for _, l := range [][]int{d, way} {
		l = l[:cap(l)]
		for i := range l {
			l[i] = 99
		}
	}
	if other[1] != 1 || !slices.Equal(second, []int{1, 2, 3, 4}) {
		t.Errorf("behind a change of other answers: %v, %v", other, second)
	}
	wantDist(t, f, 0, nil, other)
	wantWay(t, f, 0, 4, nil, second)
}
