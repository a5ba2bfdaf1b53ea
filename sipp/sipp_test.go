package sipp

import (
	"math"
	"slices"
	"testing"

	"carfax/api"
	"carfax/floor"
	"carfax/path"
	"carfax/sample"
	"carfax/window"
)

// The tests hold the package against slow answers, worked out moment by moment on rows and on windows in no order, as the chapter tells them.

const (
	line  = "0aab1\n"
	whole = "0aab1\n#c#d#\n2eeff\n"
	// The cells 0 and 2 of it would be two steps apart, if the dock between them could be gone through.
	through = "a0b\nc#d\nefg\n"
	row     = "0abc\n"
)

type spot struct {
	cell int
	w    api.Window
}

func take(cell, from, to int) spot { return spot{cell, api.Window{From: from, To: to}} }

func in(moment int, w api.Window) bool { return moment >= w.From && moment < w.To }

// slow is a floor as rows, when its cells are taken, and where a robot is at the start.
type slow struct {
	rows        []string
	taken       []spot
	from, start int
}

func slowOf(f api.Floor, taken []spot, from, start int) slow {
	s := slow{taken: taken, from: from, start: start}
	for cells := f.Cells; cells != ""; cells = cells[f.W:] {
		s.rows = append(s.rows, cells[:f.W])
	}
	return s
}

func (s slow) at(x, y int) byte {
	if y < 0 || y >= len(s.rows) || x < 0 || x >= len(s.rows[0]) {
		return '#'
	}
	return s.rows[y][x]
}

func (s slow) cells() int { return len(s.rows) * len(s.rows[0]) }

// near is the cells above, to the right, below, to the left that are no walls.
func (s slow) near(cell int) []int {
	var near []int
	w := len(s.rows[0])
	x, y := cell%w, cell/w
	for _, p := range [][2]int{{x, y - 1}, {x + 1, y}, {x, y + 1}, {x - 1, y}} {
		if s.at(p[0], p[1]) != '#' {
			near = append(near, p[1]*w+p[0])
		}
	}
	return near
}

func (s slow) leaves(cell int) bool {
	c := s.at(cell%len(s.rows[0]), cell/len(s.rows[0]))
	return cell == s.from || c >= 'a' && c <= 'z'
}

// goes tells whether the robot can go from a cell to another one, or stay.
func (s slow) goes(cell, to int) bool {
	return cell == to || s.leaves(cell) && slices.Contains(s.near(cell), to)
}

func (s slow) free(cell, moment int) bool {
	return moment >= 0 && moment < api.MaxTime &&
		!slices.ContainsFunc(s.taken, func(x spot) bool { return x.cell == cell && in(moment, x.w) })
}

// where is for each moment from the start on, so many ahead, the cells in which the robot can be.
func (s slow) where(ahead int) [][]bool {
	can := [][]bool{make([]bool, s.cells())}
	can[0][s.from] = true
	for i := 1; i <= ahead; i++ {
		next := make([]bool, s.cells())
		for cell, was := range can[i-1] {
			if was {
				next[cell] = s.free(cell, s.start+i)
			}
		}
		for cell, was := range can[i-1] {
			if !was || !s.leaves(cell) {
				continue
			}
			for _, to := range s.near(cell) {
				next[to] = next[to] || s.free(to, s.start+i)
			}
		}
		can = append(can, next)
	}
	return can
}

func (s slow) soon(ahead int) []int {
	soon := slices.Repeat([]int{-1}, s.cells())
	for i, can := range s.where(ahead) {
		for cell, is := range can {
			if is && soon[cell] < 0 {
				soon[cell] = s.start + i
			}
		}
	}
	return soon
}

// settled tells whether the robot can have been in from since the start, when it is in a cell at a moment.
func (s slow) settled(cell, moment int) bool {
	for m := s.start + 1; m <= moment; m++ {
		if !s.free(s.from, m) {
			return false
		}
	}
	return cell == s.from
}

func (s slow) plan(to, ahead int) ([]api.Step, api.Errno) {
	moment := s.soon(ahead)[to]
	if moment < 0 {
		return nil, api.ErrNone
	}
	can := s.where(ahead)
	var l []api.Step
	for cell := to; !s.settled(cell, moment); moment-- {
		near := s.near(cell)
		i := slices.IndexFunc(near, func(other int) bool { return s.leaves(other) && can[moment-1-s.start][other] })
		if i >= 0 {
			l = append(l, api.Step{Cell: cell, Time: moment})
			cell = near[i]
		}
	}
	slices.Reverse(l)
	return l, api.OK
}

// every is all ways to a cell, each as the cells in which the robot is from the start on, up to some moment.
func (s slow) every(to, moment int) [][]int {
	ways := [][]int{{s.from}}
	for m := s.start + 1; m <= moment; m++ {
		var longer [][]int
		for _, way := range ways {
			for cell := range s.cells() {
				if s.goes(way[len(way)-1], cell) && s.free(cell, m) {
					longer = append(longer, append(slices.Clone(way), cell))
				}
			}
		}
		ways = longer
	}
	return slices.DeleteFunc(ways, func(way []int) bool { return way[len(way)-1] != to })
}

// chosen is the one of all ways that the chapter tells, from its end.
func (s slow) chosen(ways [][]int) []int {
	for i := len(ways[0]) - 1; i > 0; i-- {
		cell, from := ways[0][i], slices.Concat(s.near(ways[0][i]), []int{ways[0][i]})
		if s.settled(cell, s.start+i) {
			return append(slices.Repeat([]int{s.from}, i), ways[0][i:]...)
		}
		for _, other := range from {
			rest := slices.DeleteFunc(slices.Clone(ways), func(way []int) bool { return way[i-1] != other })
			if len(rest) > 0 {
				ways = rest
				break
			}
		}
	}
	return ways[0]
}

func (s slow) steps(way []int) []api.Step {
	var l []api.Step
	for i := 1; i < len(way); i++ {
		if way[i] != way[i-1] {
			l = append(l, api.Step{Cell: way[i], Time: s.start + i})
		}
	}
	return l
}

func (s slow) is(l []api.Step) bool {
	at, moment := s.from, s.start
	for _, x := range l {
		if x.Time <= moment || x.Time >= api.MaxTime || x.Cell == at || !s.goes(at, x.Cell) {
			return false
		}
		for moment++; moment < x.Time; moment++ {
			if !s.free(at, moment) {
				return false
			}
		}
		at = x.Cell
		if !s.free(at, moment) {
			return false
		}
	}
	return true
}

func parsed(t *testing.T, s string) api.Floor {
	t.Helper()
	f, row, e := floor.Parse(s)
	if e != api.OK {
		t.Fatalf("Parse(%q): row %d, error %d", s, row, e)
	}
	return f
}

func table(t *testing.T, taken []spot) *window.Table {
	t.Helper()
	x := window.New()
	for _, s := range taken {
		if e := x.Take(s.cell, s.w); e != api.OK {
			t.Fatalf("Take(%d, %v): error %d", s.cell, s.w, e)
		}
	}
	return x
}

// mixedSpots is up to so many windows of each cell of a floor, none of which has a moment of another one, from some moment on; and of what is no cell of it.
func mixedSpots(f api.Floor, many, from int, draw func(below int) int) []spot {
	var taken []spot
	for _, cell := range append(sample.Outside(), sample.Inside(f)...) {
		at := from
		for range draw(many + 1) {
			at += draw(4)
			w := api.Window{From: at, To: at + 1 + draw(5)}
			if w.From >= 0 && w.To <= api.MaxTime {
				taken = append(taken, spot{cell, w})
			}
			at = w.To
		}
	}
	return taken
}

// mixedStart is a moment: some are at time's edges.
func mixedStart(draw func(below int) int) int {
	switch draw(4) {
	case 0:
		return draw(3)
	case 1:
		return api.MaxTime - 1 - draw(12)
	}
	return draw(api.MaxTime)
}

// steps is steps of numbers, two for each.
func steps(numbers ...int) []api.Step {
	var l []api.Step
	for i := 0; i < len(numbers); i += 2 {
		l = append(l, api.Step{Cell: numbers[i], Time: numbers[i+1]})
	}
	return l
}

func wantSoon(t *testing.T, f api.Floor, taken []spot, from, start, ahead int, want []int) {
	t.Helper()
	if got := Soon(f, table(t, taken), from, start, ahead); !slices.Equal(got, want) {
		t.Errorf("%q, taken %v: Soon from %d at %d, %d ahead: %v, want %v", f.Cells, taken, from, start, ahead, got, want)
	}
}

func wantPlan(t *testing.T, f api.Floor, taken []spot, from, start, to, ahead int, want []api.Step) {
	t.Helper()
	if got, e := Plan(f, table(t, taken), from, start, to, ahead); e != api.OK || !slices.Equal(got, want) {
		t.Errorf("%q, taken %v: Plan from %d at %d to %d, %d ahead: %v, error %d, want %v", f.Cells, taken, from, start, to, ahead, got, e, want)
	}
}

func wantError(t *testing.T, f api.Floor, taken []spot, from, start, to, ahead int, want api.Errno) {
	t.Helper()
	if got, e := Plan(f, table(t, taken), from, start, to, ahead); e != want || len(got) != 0 {
		t.Errorf("%q, taken %v: Plan from %d at %d to %d, %d ahead: %v, error %d, want error %d", f.Cells, taken, from, start, to, ahead, got, e, want)
	}
}

func wantIs(t *testing.T, f api.Floor, taken []spot, from, start int, l []api.Step, want bool) {
	t.Helper()
	if Is(f, table(t, taken), from, start, l) != want {
		t.Errorf("%q, taken %v: Is from %d at %d of %v: %v", f.Cells, taken, from, start, l, !want)
	}
}

// wantLike holds all that is planned from a cell against the slow answers.
func wantLike(t *testing.T, f api.Floor, taken []spot, from, start, ahead int) {
	t.Helper()
	s := slowOf(f, taken, from, start)
	wantSoon(t, f, taken, from, start, ahead, s.soon(ahead))
	for _, to := range sample.Inside(f) {
		if want, e := s.plan(to, ahead); e != api.OK {
			wantError(t, f, taken, from, start, to, ahead, e)
		} else {
			wantPlan(t, f, taken, from, start, to, ahead, want)
		}
	}
}

// P7.1

func TestSoonOfTheExample(t *testing.T) {
	f := parsed(t, line)
	wantSoon(t, f, nil, 0, 0, 9, []int{0, 1, 2, 3, 4})
	wantSoon(t, f, []spot{take(2, 2, 5)}, 0, 0, 9, []int{0, 1, 5, 6, 7})
	wantSoon(t, f, []spot{take(2, 2, 5), take(1, 4, 9)}, 0, 0, 20, []int{0, 1, 10, 11, 12})
}

func TestSoonOfNothing(t *testing.T) {
	x := window.New()
	for _, f := range sample.Wrong() {
		for _, from := range append(sample.Outside(), 0, 1, 2) {
			if got := Soon(f, x, from, 0, 9); len(got) != 0 {
				t.Errorf("%v: Soon from %d: %v", f, from, got)
			}
		}
	}
	f := parsed(t, whole)
	if got := Soon(f, nil, 0, 0, 9); len(got) != 0 {
		t.Errorf("without a table: %v", got)
	}
	for _, from := range append(sample.Outside(), 5, 7, 9, 15) {
		wantSoon(t, f, nil, from, 0, 9, nil)
	}
	for _, start := range []int{-1, -api.MaxTime, api.MaxTime, api.MaxTime + 1, 1 << 32, math.MinInt, math.MaxInt} {
		wantSoon(t, f, nil, 0, start, 9, nil)
	}
	for _, ahead := range []int{-1, -api.MaxAhead, api.MaxAhead + 1, 1 << 32, math.MinInt, math.MaxInt} {
		wantSoon(t, f, nil, 0, 0, ahead, nil)
	}
}

func TestSoonAtTheEdgesOfTime(t *testing.T) {
	f := parsed(t, line)
	wantSoon(t, f, nil, 0, 0, 0, []int{0, -1, -1, -1, -1})
	wantSoon(t, f, nil, 2, 7, 1, []int{-1, 8, 7, 8, -1})
	wantSoon(t, f, nil, 0, api.MaxTime-1, api.MaxAhead, []int{api.MaxTime - 1, -1, -1, -1, -1})
	wantSoon(t, f, nil, 0, api.MaxTime-3, api.MaxAhead, []int{api.MaxTime - 3, api.MaxTime - 2, api.MaxTime - 1, -1, -1})
	// What can't be reached ahead of the last moment may be so at that one.
	taken := []spot{take(1, 0, api.MaxAhead)}
	wantSoon(t, f, taken, 0, 0, api.MaxAhead, []int{0, api.MaxAhead, -1, -1, -1})
	wantSoon(t, f, taken, 0, 0, api.MaxAhead-1, []int{0, -1, -1, -1, -1})
	wantSoon(t, f, taken, 0, 1, api.MaxAhead, []int{1, api.MaxAhead, api.MaxAhead + 1, -1, -1})
	wantSoon(t, f, []spot{take(1, 0, api.MaxTime)}, 0, 5, api.MaxAhead, []int{5, -1, -1, -1, -1})
	wantSoon(t, f, []spot{take(1, api.MaxTime-3, api.MaxTime-1)}, 0, api.MaxTime-4, 9, []int{api.MaxTime - 4, api.MaxTime - 1, -1, -1, -1})
}

func TestFromIsNotAskedAtTheStart(t *testing.T) {
	f := parsed(t, row)
	wantSoon(t, f, []spot{take(0, 5, 6)}, 0, 5, 9, []int{5, 6, 7, 8})
	wantSoon(t, f, []spot{take(0, 0, 6), take(1, 6, 7)}, 0, 5, 9, []int{5, 7, 8, 9})
	// It may not stay, and has to leave at once, if it can.
	wantSoon(t, f, []spot{take(0, 6, 7)}, 0, 5, 9, []int{5, 6, 7, 8})
	wantSoon(t, f, []spot{take(0, 0, 7)}, 0, 5, 9, []int{5, 6, 7, 8})
	wantSoon(t, f, []spot{take(0, 6, 7), take(1, 6, 7)}, 0, 5, 9, []int{5, -1, -1, -1})
	wantSoon(t, f, []spot{take(0, 0, 7), take(1, 6, 7)}, 0, 5, 9, []int{5, -1, -1, -1})
	// It may stay up to the moment ahead of the one at which it must be away.
	wantSoon(t, f, []spot{take(0, 7, 8), take(1, 6, 7)}, 0, 5, 9, []int{5, 7, 8, 9})
	wantSoon(t, f, []spot{take(0, 7, 8), take(1, 6, 8)}, 0, 5, 9, []int{5, -1, -1, -1})
	// What was free ahead of the start is of no use.
	wantSoon(t, f, []spot{take(0, 5, 99), take(1, 6, 7)}, 0, 5, 9, []int{5, -1, -1, -1})
}

func TestSoonDoesNotGoThroughDocks(t *testing.T) {
	f := parsed(t, through)
	wantSoon(t, f, nil, 0, 10, 9, []int{10, 11, 16, 11, -1, 15, 12, 13, 14})
	wantSoon(t, f, nil, 1, 10, 9, []int{11, 10, 11, 12, -1, 12, 13, 14, 13})
	// The dock from which it came may be come back to, and left again.
	taken := []spot{take(1, 11, 13), take(0, 12, 13), take(3, 0, 90), take(2, 11, 15)}
	wantSoon(t, f, taken, 1, 10, 9, []int{11, 10, -1, -1, -1, -1, -1, -1, -1})
	taken = []spot{take(1, 11, 12), take(0, 12, 99), take(3, 0, 90), take(2, 11, 15)}
	wantSoon(t, f, taken, 1, 10, 9, []int{11, 10, 15, -1, -1, 16, 19, 18, 17})
}

func TestSoonWaitsInAnyCell(t *testing.T) {
	f := parsed(t, row)
	// In the dock it may not wait, but in the lane beside it.
	wantSoon(t, f, []spot{take(0, 1, 90), take(2, 0, 6)}, 0, 0, 9, []int{0, 1, 6, 7})
	// It waits in one after the other.
	wantSoon(t, f, []spot{take(0, 3, 90), take(1, 0, 3), take(1, 5, 90), take(2, 0, 5), take(3, 0, 8)}, 0, 0, 9, []int{0, 3, 5, 8})
	// It comes just when the cell behind it is taken, and just then no more.
	wantSoon(t, f, []spot{take(0, 3, 90), take(1, 0, 3)}, 0, 0, 9, []int{0, 3, 4, 5})
	wantSoon(t, f, []spot{take(0, 3, 90), take(1, 0, 4)}, 0, 0, 9, []int{0, -1, -1, -1})
	// The window that is reached first is left too soon; a later one is not.
	wantSoon(t, f, []spot{take(1, 3, 5), take(2, 0, 7)}, 0, 0, 9, []int{0, 1, 7, 8})
	wantSoon(t, f, []spot{take(1, 3, 7), take(2, 0, 7)}, 0, 0, 9, []int{0, 1, 8, 9})
}

func TestSoonOfWindowsOneBehindTheOther(t *testing.T) {
	f := parsed(t, row)
	wantSoon(t, f, []spot{take(1, 0, 2), take(1, 2, 3), take(1, 3, 5)}, 0, 0, 9, []int{0, 5, 6, 7})
	wantSoon(t, f, []spot{take(1, 0, 2), take(1, 3, 5), take(2, 3, 4), take(2, 5, 7)}, 0, 0, 9, []int{0, 2, 7, 8})
}

func TestSoonOnMixedFloors(t *testing.T) {
	for seed := range 60 {
		draw := sample.Numbers(seed)
		f, start := sample.Floor(api.MaxSide, draw, floor.Right), mixedStart(draw)
		taken := mixedSpots(f, 8, start-5, draw)
		from, ahead := sample.Inside(f)[draw(len(sample.Inside(f)))], draw(60)
		wantSoon(t, f, taken, from, start, ahead, slowOf(f, taken, from, start).soon(ahead))
	}
}

// TestSoonOfVeryManyWindows takes each cell at each second moment, so that a robot can only go, or wait in none but the dock.
func TestSoonOfVeryManyWindows(t *testing.T) {
	f := parsed(t, sample.Full())
	x := window.New()
	var want []int
	for cell := range len(f.Cells) {
		if f.Cells[cell] == '#' || cell > 0 && cell < 8 {
			want = append(want, -1)
			x.Take(cell, api.Window{From: 0, To: api.MaxTime})
			continue
		}
		want = append(want, cell%16+cell/16)
		if cell > 0 {
			for at := range api.MaxAhead {
				moment := 2*at + 1 - (cell%16+cell/16)%2
				x.Take(cell, api.Window{From: moment, To: moment + 1})
			}
		}
	}
	if got := Soon(f, x, 0, 0, api.MaxAhead); !slices.Equal(got, want) {
		t.Errorf("Soon: %v, want %v", got, want)
	}
	for moment := range 40 {
		x.Take(0, api.Window{From: 1, To: 20})
		x.Take(17, api.Window{From: moment, To: moment + 1})
	}
	got := Soon(f, x, 0, 0, api.MaxAhead)
	if got[0] != 0 || got[16] != 1 || got[17] != 40 || got[255] != 30 {
		t.Errorf("Soon: %v", got)
	}
	if l, e := Plan(f, x, 0, 0, 17, api.MaxAhead); e != api.OK || !Is(f, x, 0, 0, l) || l[len(l)-1] != (api.Step{Cell: 17, Time: 40}) {
		t.Errorf("Plan: %v, error %d", l, e)
	}
}

// P7.2

func TestPlanOfTheExample(t *testing.T) {
	f := parsed(t, line)
	wantPlan(t, f, nil, 0, 0, 3, 50, steps(1, 1, 2, 2, 3, 3))
	wantPlan(t, f, []spot{take(2, 2, 5)}, 0, 0, 3, 50, steps(1, 4, 2, 5, 3, 6))
	wantPlan(t, f, []spot{take(2, 2, 5), take(1, 4, 9)}, 0, 0, 3, 50, steps(1, 9, 2, 10, 3, 11))
}

func TestPlanOfWrongArguments(t *testing.T) {
	x := window.New()
	for _, f := range sample.Wrong() {
		for _, cell := range append(sample.Outside(), 0, 1, 2) {
			for _, from := range []int{0, 1, cell} {
				if l, e := Plan(f, x, from, 0, cell, 9); e != api.ErrArg || len(l) != 0 {
					t.Errorf("%v: Plan from %d to %d: %v, error %d", f, from, cell, l, e)
				}
			}
		}
	}
	f := parsed(t, whole)
	all := []spot{take(0, 0, api.MaxTime), take(1, 0, api.MaxTime)}
	for _, cell := range append(sample.Outside(), 5, 7, 9, 15) {
		for _, taken := range [][]spot{nil, all} {
			wantError(t, f, taken, cell, 0, 0, 9, api.ErrArg)
			wantError(t, f, taken, 0, 0, cell, 9, api.ErrArg)
			wantError(t, f, taken, cell, 0, cell, 9, api.ErrArg)
		}
	}
	for _, to := range []int{0, 1, 4} {
		if l, e := Plan(f, nil, 0, 0, to, 9); e != api.ErrArg || len(l) != 0 {
			t.Errorf("without a table: %v, error %d", l, e)
		}
		for _, start := range []int{-1, api.MaxTime, 1 << 32, math.MinInt, math.MaxInt} {
			wantError(t, f, nil, 0, start, to, 9, api.ErrArg)
		}
		for _, ahead := range []int{-1, api.MaxAhead + 1, 1 << 32, math.MinInt, math.MaxInt} {
			wantError(t, f, nil, 0, 0, to, ahead, api.ErrArg)
		}
	}
}

func TestPlanToWhereItIs(t *testing.T) {
	f := parsed(t, whole)
	for _, cell := range sample.Inside(f) {
		for _, start := range []int{0, 1, api.MaxTime - 1} {
			wantPlan(t, f, nil, cell, start, cell, 0, nil)
			wantPlan(t, f, []spot{take(cell, 0, api.MaxTime)}, cell, start, cell, api.MaxAhead, nil)
		}
	}
}

func TestPlanOfNoWay(t *testing.T) {
	f := parsed(t, line)
	wantError(t, f, nil, 0, 0, 3, 2, api.ErrNone)
	wantPlan(t, f, nil, 0, 0, 3, 3, steps(1, 1, 2, 2, 3, 3))
	wantError(t, f, nil, 0, 0, 1, 0, api.ErrNone)
	wantError(t, f, nil, 0, api.MaxTime-1, 1, 9, api.ErrNone)
	wantError(t, f, nil, 0, api.MaxTime-3, 3, 9, api.ErrNone)
	wantPlan(t, f, nil, 0, api.MaxTime-4, 3, 9, steps(1, api.MaxTime-3, 2, api.MaxTime-2, 3, api.MaxTime-1))
	wantError(t, f, []spot{take(3, 0, 200)}, 0, 0, 3, 199, api.ErrNone)
	wantPlan(t, f, []spot{take(3, 0, 200)}, 2, 0, 3, 200, steps(3, 200))
	wantError(t, f, []spot{take(0, 1, 3), take(1, 1, 2)}, 0, 0, 2, 9, api.ErrNone)
	wantError(t, parsed(t, through), []spot{take(7, 0, api.MaxTime)}, 0, 0, 2, api.MaxAhead, api.ErrNone)
}

func TestPlanEndsInADock(t *testing.T) {
	f := parsed(t, line)
	wantPlan(t, f, nil, 0, 3, 4, 9, steps(1, 4, 2, 5, 3, 6, 4, 7))
	wantPlan(t, f, nil, 2, 3, 0, 9, steps(1, 4, 0, 5))
	// It is asked when it comes there, not whether it may stay.
	wantPlan(t, f, []spot{take(4, 8, 90)}, 0, 3, 4, 9, steps(1, 4, 2, 5, 3, 6, 4, 7))
	wantPlan(t, f, []spot{take(4, 7, 8)}, 0, 3, 4, 9, steps(1, 5, 2, 6, 3, 7, 4, 8))
}

func TestPlanWaitsWhereItBegan(t *testing.T) {
	f := parsed(t, row)
	wantPlan(t, f, []spot{take(3, 0, 9)}, 2, 0, 3, 50, steps(3, 9))
	wantPlan(t, f, []spot{take(3, 0, 9), take(2, 0, 8)}, 0, 0, 3, 50, steps(1, 7, 2, 8, 3, 9))
	// The moment of the start has no part in that, and what is taken behind it neither.
	wantPlan(t, f, []spot{take(3, 0, 9), take(2, 4, 5)}, 2, 4, 3, 50, steps(3, 9))
	wantPlan(t, f, []spot{take(3, 0, 9), take(2, 0, 5)}, 2, 4, 3, 50, steps(3, 9))
	wantPlan(t, f, []spot{take(3, 0, 9), take(2, 9, 20)}, 2, 4, 3, 50, steps(3, 9))
	wantPlan(t, f, []spot{take(2, 0, 8), take(0, 7, 20)}, 0, 0, 3, 50, steps(1, 7, 2, 8, 3, 9))
}

func TestPlanWaitsElsewhereOnlyWhereItMust(t *testing.T) {
	f := parsed(t, row)
	// In the dock it may not be again: it waits in the lane beside it.
	wantPlan(t, f, []spot{take(0, 1, 9), take(2, 0, 4)}, 0, 0, 2, 50, steps(1, 1, 2, 4))
	// It may: it goes back, and since it was not there all the time, that is not as if it had waited.
	wantPlan(t, f, []spot{take(0, 1, 2), take(2, 0, 4)}, 0, 0, 2, 50, steps(1, 1, 0, 2, 1, 3, 2, 4))
	// Where it can have come from somewhere it did so: it goes to and fro, also when it could have waited.
	wantPlan(t, f, []spot{take(3, 0, 5)}, 0, 0, 3, 50, steps(1, 1, 2, 2, 1, 3, 2, 4, 3, 5))
	wantPlan(t, f, []spot{take(3, 0, 6)}, 0, 0, 3, 50, steps(1, 2, 2, 3, 1, 4, 2, 5, 3, 6))
	wantPlan(t, f, []spot{take(0, 1, 9), take(3, 0, 5)}, 0, 0, 3, 50, steps(1, 1, 2, 2, 1, 3, 2, 4, 3, 5))
	wantPlan(t, f, []spot{take(0, 1, 9), take(3, 0, 6)}, 0, 0, 3, 50, steps(1, 1, 2, 3, 1, 4, 2, 5, 3, 6))
}

func TestPlanTakesTheFirstOfSeveralFromTheEnd(t *testing.T) {
	// A square of lanes, whose middle is the cell 12; the dock is out of the way.
	f := parsed(t, "aaaaa\naaaaa\naaaaa\naaaaa\naaaaa\n0####\n")
	for _, x := range []struct {
		to  int
		way []api.Step
	}{
		{4, steps(13, 1, 14, 2, 9, 3, 4, 4)},           // it came from below, ahead of from the left
		{24, steps(13, 1, 14, 2, 19, 3, 24, 4)},        // from above
		{20, steps(11, 1, 10, 2, 15, 3, 20, 4)},        // from above, ahead of from the right
		{0, steps(7, 1, 2, 2, 1, 3, 0, 4)},             // from the right, ahead of from below
		{1, steps(7, 1, 2, 2, 1, 3)},                   // from the right, ahead of from below
		{21, steps(11, 1, 16, 2, 21, 3)},               // from above, ahead of from the right
		{7, steps(7, 1)},                               // from the only one
		{14, steps(13, 1, 14, 2)},                      // from the left
		{10, steps(11, 1, 10, 2)},                      // from the right
		{18, steps(13, 1, 18, 2)},                      // from above, ahead of from the left
		{6, steps(7, 1, 6, 2)},                         // from the right, ahead of from below
		{25, steps(11, 1, 10, 2, 15, 3, 20, 4, 25, 5)}, // into the dock
	} {
		wantPlan(t, f, nil, 12, 0, x.to, 50, x.way)
	}
	wantPlan(t, f, []spot{take(14, 2, 3)}, 12, 0, 24, 50, steps(13, 1, 18, 2, 19, 3, 24, 4))
	wantPlan(t, f, []spot{take(19, 3, 4)}, 12, 0, 24, 50, steps(13, 1, 18, 2, 23, 3, 24, 4))
}

// TestPlanOfAllWays tries all ways, and chooses among them from the end.
func TestPlanOfAllWays(t *testing.T) {
	planned := 0
	for seed := range 500 {
		draw := sample.Numbers(seed)
		f, start := sample.Floor(3, draw, floor.Right), mixedStart(draw)
		taken := mixedSpots(f, 3, start-2, draw)
		from := sample.Inside(f)[draw(len(sample.Inside(f)))]
		s := slowOf(f, taken, from, start)
		for to, moment := range s.soon(6) {
			if to == from || moment < 0 {
				continue
			}
			planned++
			wantPlan(t, f, taken, from, start, to, 6, s.steps(s.chosen(s.every(to, moment))))
		}
	}
	if planned < 500 {
		t.Errorf("only %d ways were planned", planned)
	}
}

func TestPlanOnMixedFloors(t *testing.T) {
	for seed := range 400 {
		draw := sample.Numbers(seed)
		f, start := sample.Floor(5, draw, floor.Right), mixedStart(draw)
		taken := mixedSpots(f, 1+draw(8), start-draw(8), draw)
		from := sample.Inside(f)[draw(len(sample.Inside(f)))]
		wantLike(t, f, taken, from, start, draw(50))
	}
}

func TestPlanOfManySteps(t *testing.T) {
	f := parsed(t, row)
	for _, end := range []int{api.MaxAhead - 1, api.MaxAhead} {
		taken := []spot{take(0, 1, api.MaxTime), take(3, 0, end)}
		s := slowOf(f, taken, 0, 0)
		want, e := s.plan(3, api.MaxAhead)
		if e != api.OK || len(want) < api.MaxAhead-2 {
			t.Errorf("only %d steps are wanted, error %d", len(want), e)
		}
		wantPlan(t, f, taken, 0, 0, 3, api.MaxAhead, want)
		wantIs(t, f, taken, 0, 0, want, true)
	}
}

// P7.3

func TestIsOfTheExample(t *testing.T) {
	f := parsed(t, line)
	taken := []spot{take(2, 2, 5)}
	wantIs(t, f, nil, 0, 0, steps(1, 1, 2, 2, 3, 3), true)
	wantIs(t, f, taken, 0, 0, steps(1, 1, 2, 2, 3, 3), false)
	wantIs(t, f, taken, 0, 0, steps(1, 4, 2, 5, 3, 6), true)
	wantIs(t, f, taken, 0, 0, steps(1, 1, 2, 5, 3, 6), true)
	wantIs(t, f, append(taken, take(1, 4, 9)), 0, 0, steps(1, 4, 2, 5, 3, 6), false)
	wantIs(t, f, append(taken, take(1, 4, 9)), 0, 0, steps(1, 9, 2, 10, 3, 11), true)
}

func TestIsOfWrongArguments(t *testing.T) {
	x := window.New()
	for _, f := range sample.Wrong() {
		for _, from := range append(sample.Outside(), 0, 1, 2) {
			if Is(f, x, from, 0, nil) || Is(f, x, from, 0, steps(1, 1)) {
				t.Errorf("%v: Is from %d", f, from)
			}
		}
	}
	f := parsed(t, whole)
	if Is(f, nil, 0, 0, nil) || Is(f, nil, 0, 0, steps(1, 1)) {
		t.Errorf("without a table")
	}
	for _, from := range append(sample.Outside(), 5, 7, 9, 15) {
		wantIs(t, f, nil, from, 0, nil, false)
		wantIs(t, f, nil, from, 0, steps(1, 1), false)
	}
	for _, start := range []int{-1, -api.MaxTime, api.MaxTime, api.MaxTime + 1, 1 << 32, math.MinInt, math.MaxInt} {
		wantIs(t, f, nil, 0, start, nil, false)
		wantIs(t, f, nil, 0, start, steps(1, 1), false)
	}
}

func TestIsOfNoSteps(t *testing.T) {
	f := parsed(t, whole)
	for _, from := range sample.Inside(f) {
		for _, start := range []int{0, 1, api.MaxTime - 1} {
			wantIs(t, f, nil, from, start, nil, true)
			wantIs(t, f, []spot{take(from, 0, api.MaxTime)}, from, start, []api.Step{}, true)
		}
	}
}

func TestIsAsksForRisingMoments(t *testing.T) {
	f := parsed(t, line)
	wantIs(t, f, nil, 0, 5, steps(1, 6), true)
	for _, moment := range []int{5, 4, 0, -1, math.MinInt, api.MaxTime, api.MaxTime + 1, 1 << 32, 1<<32 + 6, math.MaxInt} {
		wantIs(t, f, nil, 0, 5, steps(1, moment), false)
		wantIs(t, f, nil, 0, 5, steps(1, 6, 2, moment), false)
		wantIs(t, f, nil, 0, 5, steps(1, 6, 2, moment, 3, 20), false)
	}
	wantIs(t, f, nil, 0, 5, steps(1, 6, 2, 6), false)
	wantIs(t, f, nil, 0, 5, steps(1, 7, 2, 6), false)
	wantIs(t, f, nil, 0, 5, steps(1, 7, 2, 9, 3, 30), true)
	wantIs(t, f, nil, 0, 0, steps(1, api.MaxTime-1), true)
	wantIs(t, f, nil, 0, api.MaxTime-2, steps(1, api.MaxTime-1, 2, api.MaxTime), false)
}

func TestIsAsksForCellsNear(t *testing.T) {
	f := parsed(t, whole)
	for _, l := range [][]api.Step{
		steps(1, 1), steps(3, 1), steps(11, 1), steps(5, 1), steps(7, 1), steps(14, 1), // where it is, cells that are not beside it, walls
		steps(2, 1, 2, 2), steps(6, 1, 16, 2), steps(6, 1, 11, 2, 16, 3), steps(2, 1, 7, 2), steps(2, 1, 4, 2), steps(2, 1, 1, 2, 3, 3),
	} {
		wantIs(t, f, nil, 1, 0, l[:len(l)-1], true)
		wantIs(t, f, nil, 1, 0, l, false)
	}
	for _, cell := range sample.Outside() {
		wantIs(t, f, nil, 1, 0, steps(cell, 1), false)
		wantIs(t, f, nil, 1, 0, steps(2, 1, cell, 2), false)
		wantIs(t, f, nil, 1, 0, steps(2, 1, cell, 2, 2, 3), false)
	}
	// The end of a row is not beside the beginning of the next one.
	g := parsed(t, "0ab\ncde\n")
	wantIs(t, g, nil, 2, 0, steps(3, 1), false)
	wantIs(t, g, nil, 3, 0, steps(2, 1), false)
}

func TestIsLeavesADockOnlyWhereTheWayBegins(t *testing.T) {
	f := parsed(t, through)
	wantIs(t, f, nil, 0, 0, steps(1, 1), true)
	wantIs(t, f, nil, 0, 0, steps(1, 1, 2, 2), false)
	wantIs(t, f, nil, 0, 0, steps(1, 1, 0, 2), false)
	wantIs(t, f, nil, 1, 0, steps(2, 1, 1, 2, 0, 3, 1, 4, 2, 5), true)
	g := parsed(t, "012\nabc\n")
	wantIs(t, g, nil, 0, 0, steps(1, 1), true)
	wantIs(t, g, nil, 0, 0, steps(1, 1, 4, 2), false)
	wantIs(t, g, nil, 0, 0, steps(3, 1, 0, 2, 1, 3), true)
}

func TestIsAsksForFreeCells(t *testing.T) {
	f := parsed(t, row)
	l := steps(1, 5, 2, 8, 1, 11)
	wantIs(t, f, nil, 0, 2, l, true)
	for _, x := range []struct {
		cell, moment int
		is           bool
	}{
		{0, 1, true}, {0, 2, true}, {0, 3, false}, {0, 4, false}, {0, 5, true},
		{1, 4, true}, {1, 5, false}, {1, 6, false}, {1, 7, false}, {1, 8, true}, {1, 10, true}, {1, 11, false}, {1, 12, true},
		{2, 7, true}, {2, 8, false}, {2, 10, false}, {2, 11, true},
		{3, 8, true}, {9, 5, true}, {-1, 5, true},
	} {
		wantIs(t, f, []spot{take(x.cell, x.moment, x.moment+1)}, 0, 2, l, x.is)
	}
	// All of it lies between what is taken.
	wantIs(t, f, []spot{take(0, 0, 3), take(0, 5, 90), take(1, 0, 5), take(1, 8, 11), take(1, 12, 90), take(2, 0, 8), take(2, 11, 90)}, 0, 4, l, true)
	// Where it began is as other cells when it comes back.
	back := steps(1, 3, 0, 4, 1, 6)
	wantIs(t, f, []spot{take(0, 2, 3)}, 0, 2, back, true)
	wantIs(t, f, []spot{take(0, 0, 4)}, 0, 2, back, true)
	wantIs(t, f, []spot{take(0, 4, 5)}, 0, 2, back, false)
	wantIs(t, f, []spot{take(0, 5, 6)}, 0, 2, back, false)
	wantIs(t, f, []spot{take(0, 3, 4), take(0, 6, 7)}, 0, 2, back, true)
}

func TestIsOfManySteps(t *testing.T) {
	f := parsed(t, row)
	taken := []spot{take(1, 0, 2), take(1, api.MaxTime-1, api.MaxTime)}
	for i := range api.MaxWindows - 2 {
		taken = append(taken, take(1, 4*i+3, 4*i+4))
	}
	var l []api.Step
	for i := range 100000 {
		l = append(l, api.Step{Cell: 1, Time: 4*i + 2}, api.Step{Cell: 2, Time: 4*i + 3})
	}
	wantIs(t, f, taken, 0, 0, l, true)
	wantIs(t, f, taken, 0, 0, append(l, api.Step{Cell: 1, Time: api.MaxTime - 2}), true)
	wantIs(t, f, taken, 0, 0, append(l, api.Step{Cell: 1, Time: api.MaxTime - 1}), false)
	wantIs(t, f, append(taken, take(2, 399999, 400000)), 0, 0, l, false)
}

// mixedSteps is steps that are a way often, or nearly one.
func mixedSteps(s slow, draw func(below int) int) []api.Step {
	var l []api.Step
	at, moment := s.from, s.start
	for range draw(10) {
		near := s.near(at)
		moment++
		for range draw(6) {
			if s.free(at, moment) && !s.free(near[0], moment) {
				moment++
			}
		}
		at = near[draw(len(near))]
		for _, other := range near {
			if draw(8) > 0 && s.free(other, moment) && s.leaves(other) {
				at = other
			}
		}
		l = append(l, api.Step{Cell: at, Time: moment})
	}
	return l
}

func TestIsOnMixedFloors(t *testing.T) {
	are, not := 0, 0
	for seed := range 6000 {
		draw := sample.Numbers(seed)
		f, start := sample.Floor(4, draw, floor.Right), mixedStart(draw)
		taken := mixedSpots(f, 3, start-draw(4), draw)
		s := slowOf(f, taken, sample.Inside(f)[draw(len(sample.Inside(f)))], start)
		l := mixedSteps(s, draw)
		wantIs(t, f, taken, s.from, start, l, s.is(l))
		if s.is(l) && len(l) > 2 {
			are++
		} else if !s.is(l) {
			not++
		}
	}
	if are < 200 || not < 200 {
		t.Errorf("only %d were ways of some length, and %d none", are, not)
	}
}

// P7.4

func TestWhatWasPlannedIsAWayAndComesWhenSoonSays(t *testing.T) {
	for seed := range 150 {
		draw := sample.Numbers(seed)
		f, start := sample.Floor(9, draw, floor.Right), mixedStart(draw)
		x := table(t, mixedSpots(f, 6, start-3, draw))
		from, ahead := sample.Inside(f)[draw(len(sample.Inside(f)))], draw(80)
		soon, far := Soon(f, x, from, start, ahead), path.Dist(f, from, nil)
		for _, to := range sample.Inside(f) {
			l, e := Plan(f, x, from, start, to, ahead)
			switch {
			case (e == api.OK) != (soon[to] >= 0):
				t.Errorf("%q: from %d to %d: error %d, but Soon says %d", f.Cells, from, to, e, soon[to])
			case e != api.OK || to == from:
				continue
			case l[len(l)-1] != api.Step{Cell: to, Time: soon[to]} || !Is(f, x, from, start, l):
				t.Errorf("%q: from %d to %d: %v, but Soon says %d", f.Cells, from, to, l, soon[to])
			}
			if soon[to] < start+far[to] || soon[to] > start+ahead {
				t.Errorf("%q: from %d at %d to %d: %d, but Dist says %d", f.Cells, from, start, to, soon[to], far[to])
			}
		}
	}
}

// P7.5

func TestOnAFreeFloorAStepTakesAMoment(t *testing.T) {
	for seed := range 100 {
		draw := sample.Numbers(seed)
		f, start := sample.Floor(10, draw, floor.Right), draw(api.MaxTime-200)
		from := sample.Inside(f)[draw(len(sample.Inside(f)))]
		for to, far := range path.Dist(f, from, nil) {
			if far < 0 {
				continue
			}
			l, e := Plan(f, window.New(), from, start, to, 200)
			if e != api.OK || len(l) != far {
				t.Errorf("%q: from %d to %d: %v, error %d, but Dist says %d", f.Cells, from, to, l, e, far)
			}
			for i, s := range l {
				if s.Time != start+1+i {
					t.Errorf("%q: from %d at %d to %d: %v", f.Cells, from, start, to, l)
				}
			}
		}
	}
}

func TestWithMoreTakenNothingIsReachedSooner(t *testing.T) {
	for seed := range 100 {
		draw := sample.Numbers(seed)
		f := sample.Floor(7, draw, floor.Right)
		from := sample.Inside(f)[draw(len(sample.Inside(f)))]
		x := window.New()
		less := Soon(f, x, from, 10, 60)
		for _, s := range mixedSpots(f, 4, 8, draw) {
			x.Take(s.cell, s.w)
			more := Soon(f, x, from, 10, 60)
			for cell := range more {
				if more[cell] >= 0 && (less[cell] < 0 || more[cell] < less[cell]) {
					t.Errorf("%q: from %d: %d is reached at %d, with less taken at %d", f.Cells, from, cell, more[cell], less[cell])
				}
			}
			less = more
		}
	}
}

// Rules 3 to 6

func TestTheTableIsLeftAsItIs(t *testing.T) {
	f := parsed(t, whole)
	taken := []spot{take(0, 0, 3), take(1, 5, 6), take(2, 4, 9), take(6, 2, 4), take(7, 0, 90), take(-1, 3, 4)}
	x, y := table(t, taken), table(t, taken)
	for _, from := range sample.Inside(f) {
		for _, start := range []int{0, 2, 3, 5} {
			Soon(f, x, from, start, 50)
			l, _ := Plan(f, x, from, start, 4, 50)
			Is(f, x, from, start, l)
		}
	}
	for cell := -1; cell <= len(f.Cells); cell++ {
		if !slices.Equal(x.Taken(cell), y.Taken(cell)) || !slices.Equal(x.Free(cell), y.Free(cell)) {
			t.Errorf("the cell %d is taken for %v, want %v", cell, x.Taken(cell), y.Taken(cell))
		}
	}
}

func TestATableThatNewDidNotMake(t *testing.T) {
	f := parsed(t, line)
	x := &window.Table{}
	if got := Soon(f, x, 0, 0, 9); !slices.Equal(got, []int{0, 1, 2, 3, 4}) {
		t.Errorf("Soon: %v", got)
	}
	if l, e := Plan(f, x, 0, 0, 2, 9); e != api.OK || !slices.Equal(l, steps(1, 1, 2, 2)) || !Is(f, x, 0, 0, l) {
		t.Errorf("Plan: %v, error %d", l, e)
	}
}

// TestATableIsAskedAnew takes and drops between calls: none of them may keep what an earlier one was told.
func TestATableIsAskedAnew(t *testing.T) {
	f := parsed(t, line)
	x, w := window.New(), api.Window{From: 2, To: 5}
	for range 3 {
		if l, e := Plan(f, x, 0, 0, 3, 50); e != api.OK || !slices.Equal(l, steps(1, 1, 2, 2, 3, 3)) {
			t.Errorf("free: %v, error %d", l, e)
		}
		x.Take(2, w)
		if l, e := Plan(f, x, 0, 0, 3, 50); e != api.OK || !slices.Equal(l, steps(1, 4, 2, 5, 3, 6)) {
			t.Errorf("taken: %v, error %d", l, e)
		}
		if Is(f, x, 0, 0, steps(1, 1, 2, 2)) {
			t.Errorf("taken, but Is is true")
		}
		x.Drop(2, w)
	}
}

func TestWhatIsHandedInIsNeitherChangedNorRead(t *testing.T) {
	f := parsed(t, line)
	// Behind the list's length stand steps that are none.
	l := steps(1, 1, 2, 2, 9, 9, -1, -1)
	wantIs(t, f, nil, 0, 0, l[:2], true)
	wantIs(t, f, nil, 0, 0, l, false)
	if !slices.Equal(l, steps(1, 1, 2, 2, 9, 9, -1, -1)) {
		t.Errorf("changed: %v", l)
	}
}

func TestAnswersAreTheCallers(t *testing.T) {
	f := parsed(t, line)
	x := table(t, []spot{take(2, 2, 5)})
	soon, other := Soon(f, x, 0, 0, 9), Soon(f, x, 0, 0, 9)
	l, _ := Plan(f, x, 0, 0, 3, 9)
	second, _ := Plan(f, x, 0, 0, 3, 9)
	soon, l = soon[:cap(soon)], l[:cap(l)]
	for i := range soon {
		soon[i] = 99
	}
	for i := range l {
		l[i] = api.Step{Cell: 99, Time: 99}
	}
	want := steps(1, 4, 2, 5, 3, 6)
	if !slices.Equal(other, []int{0, 1, 5, 6, 7}) || !slices.Equal(second, want) {
		t.Errorf("behind a change of other answers: %v, %v", other, second)
	}
	if third, _ := Plan(f, x, 0, 0, 3, 9); !slices.Equal(third, want) || !slices.Equal(Soon(f, x, 0, 0, 9), other) {
		t.Errorf("behind a change of other answers: %v", third)
	}
}
