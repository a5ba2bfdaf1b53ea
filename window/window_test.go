package window

import (
	"math"
	"slices"
	"testing"

	"carfax/api"
	"carfax/sample"
)

// slow is the windows for which cells are taken, in no order, all gone through for each question.
type slow struct{ taken []spot }

type spot struct {
	cell int
	w    api.Window
}

func in(moment int, w api.Window) bool { return moment >= w.From && moment < w.To }

func (s *slow) of(cell int) []api.Window {
	var l []api.Window
	for _, x := range s.taken {
		if x.cell == cell {
			l = append(l, x.w)
		}
	}
	slices.SortFunc(l, func(a, b api.Window) int { return a.From - b.From })
	return l
}

func (s *slow) is(cell, moment int) bool {
	return moment >= 0 && moment < api.MaxTime &&
		!slices.ContainsFunc(s.of(cell), func(w api.Window) bool { return in(moment, w) })
}

// borders is the moments at which something may change, and the end of time: from one on up to the next one all moments are alike.
func borders(l []api.Window) []int {
	all := []int{0, api.MaxTime}
	for _, w := range l {
		all = append(all, w.From, w.To)
	}
	slices.Sort(all)
	return slices.Compact(all)
}

func (s *slow) free(cell int) []api.Window {
	var free []api.Window
	all := borders(s.of(cell))
	for i := range len(all) - 1 {
		from, to := all[i], all[i+1]
		switch last := len(free) - 1; {
		case !s.is(cell, from):
		case last >= 0 && free[last].To == from:
			free[last].To = to
		default:
			free = append(free, api.Window{From: from, To: to})
		}
	}
	return free
}

// take tries each moment at which one of two windows begins: if two have a moment in common, they have one of these.
func (s *slow) take(cell int, w api.Window) api.Errno {
	l := s.of(cell)
	switch {
	case w.From < 0 || w.To > api.MaxTime || w.To <= w.From:
		return api.ErrArg
	case slices.ContainsFunc(l, func(x api.Window) bool { return in(w.From, x) || in(x.From, w) }):
		return api.ErrThere
	case len(l) >= 4096:
		return api.ErrLong
	}
	s.taken = append(s.taken, spot{cell, w})
	return api.OK
}

func (s *slow) drop(cell int, w api.Window) api.Errno {
	at := slices.Index(s.taken, spot{cell, w})
	if at < 0 {
		return api.ErrNone
	}
	s.taken = slices.Delete(s.taken, at, at+1)
	return api.OK
}

func (s *slow) forget(moment int) {
	s.taken = slices.DeleteFunc(s.taken, func(x spot) bool { return x.w.To <= moment })
}

func win(from, to int) api.Window { return api.Window{From: from, To: to} }

// wins is windows of numbers, two for each.
func wins(numbers ...int) []api.Window {
	var l []api.Window
	for i := 0; i < len(numbers); i += 2 {
		l = append(l, win(numbers[i], numbers[i+1]))
	}
	return l
}

// edges is moments at the edges of time, and far beyond them.
func edges() []int {
	return []int{math.MinInt, math.MinInt + 1, math.MinInt32, -api.MaxTime, -2, -1, 0, 1, 2, api.MaxTime - 2, api.MaxTime - 1, api.MaxTime, api.MaxTime + 1, 2 * api.MaxTime, math.MaxInt32, 1 << 32, 1<<32 + 1, math.MaxInt - 1, math.MaxInt}
}

// wrong is windows that are not right.
func wrong() []api.Window {
	l := wins(-1, 3, -1, 0, 0, 0, 3, 3, 4, 3, 3, 0, 0, api.MaxTime+1, api.MaxTime, api.MaxTime, api.MaxTime-1, api.MaxTime+1, api.MaxTime, api.MaxTime+1)
	for _, from := range edges() {
		for _, to := range edges() {
			if from < 0 || from >= to || to > api.MaxTime {
				l = append(l, win(from, to))
			}
		}
	}
	return l
}

// cells is numbers of cells, far apart, and such of which the lowest bits are alike.
func cells() []int {
	return []int{0, 1, -1, 255, 256, 1 << 16, 1 << 32, 1<<32 + 1, math.MaxInt, math.MinInt, math.MinInt + 1}
}

func filled(t *testing.T, cell int, l []api.Window) *Table {
	t.Helper()
	x := New()
	for _, w := range l {
		wantTake(t, x, cell, w, api.OK)
	}
	return x
}

func wantTake(t *testing.T, x *Table, cell int, w api.Window, want api.Errno) {
	t.Helper()
	if e := x.Take(cell, w); e != want {
		t.Errorf("Take(%d, %v) is %d, want %d", cell, w, e, want)
	}
}

func wantDrop(t *testing.T, x *Table, cell int, w api.Window, want api.Errno) {
	t.Helper()
	if e := x.Drop(cell, w); e != want {
		t.Errorf("Drop(%d, %v) is %d, want %d", cell, w, e, want)
	}
}

// wantCell asks for all that is said of a cell: its windows, taken and free, and each moment beside the borders of these.
func wantCell(t *testing.T, what string, x *Table, cell int, taken, free []api.Window) {
	t.Helper()
	if got := x.Taken(cell); !slices.Equal(got, taken) {
		t.Errorf("%s: Taken(%d) is %v, want %v", what, cell, got, taken)
	}
	if got := x.Free(cell); !slices.Equal(got, free) {
		t.Errorf("%s: Free(%d) is %v, want %v", what, cell, got, free)
	}
	for _, border := range append(borders(taken), edges()...) {
		for _, moment := range []int{border - 1, border, border + 1} {
			want := slices.ContainsFunc(free, func(w api.Window) bool { return in(moment, w) })
			if got := x.Is(cell, moment); got != want {
				t.Errorf("%s: Is(%d, %d) is %v, want %v", what, cell, moment, got, want)
			}
		}
	}
}

func wantLike(t *testing.T, what string, x *Table, s *slow, cells ...int) {
	t.Helper()
	for _, cell := range cells {
		wantCell(t, what, x, cell, s.of(cell), s.free(cell))
	}
}

func always() []api.Window { return wins(0, api.MaxTime) }

// P6.1

func TestExample(t *testing.T) {
	x := New()
	wantTake(t, x, 5, win(3, 7), api.OK)
	wantCell(t, "one window", x, 5, wins(3, 7), wins(0, 3, 7, 1048576))
	wantTake(t, x, 5, win(6, 9), api.ErrThere)
	wantTake(t, x, 5, win(7, 9), api.OK)
	wantCell(t, "two windows", x, 5, wins(3, 7, 7, 9), wins(0, 3, 9, 1048576))
}

func TestNothingIsTakenAtFirst(t *testing.T) {
	for _, x := range []*Table{New(), {}} {
		for _, cell := range cells() {
			wantCell(t, "at first", x, cell, nil, always())
			wantDrop(t, x, cell, win(0, 1), api.ErrNone)
			wantDrop(t, x, cell, win(0, api.MaxTime), api.ErrNone)
		}
		x.Forget(api.MaxTime)
		wantCell(t, "behind Forget", x, 0, nil, always())
	}
}

func TestTheZeroTableTakesCells(t *testing.T) {
	x := &Table{}
	wantTake(t, x, 3, win(2, 4), api.OK)
	wantTake(t, x, 3, win(3, 5), api.ErrThere)
	wantCell(t, "zero Table", x, 3, wins(2, 4), wins(0, 2, 4, api.MaxTime))
}

func TestTakeOfWindowsThatAreNotRight(t *testing.T) {
	x := filled(t, 1, wins(2, 4))
	for _, w := range wrong() {
		wantTake(t, x, 0, w, api.ErrArg)
		wantTake(t, x, 1, w, api.ErrArg)
	}
	wantCell(t, "a free cell", x, 0, nil, always())
	wantCell(t, "a taken cell", x, 1, wins(2, 4), wins(0, 2, 4, api.MaxTime))
}

func TestTakeOfTheLongestAndTheShortestWindows(t *testing.T) {
	last := api.MaxTime - 1
	for _, c := range []struct{ w, free []api.Window }{
		{always(), nil},
		{wins(0, 1), wins(1, api.MaxTime)},
		{wins(0, last), wins(last, api.MaxTime)},
		{wins(1, api.MaxTime), wins(0, 1)},
		{wins(last, api.MaxTime), wins(0, last)},
		{wins(1, last), wins(0, 1, last, api.MaxTime)},
		{wins(500, 501), wins(0, 500, 501, api.MaxTime)},
	} {
		wantCell(t, "one window", filled(t, 9, c.w), 9, c.w, c.free)
	}
}

func TestTakeIsRefusedIfSomeMomentIsTaken(t *testing.T) {
	for a := range 8 {
		for b := a + 1; b <= 8; b++ {
			for from := range 8 {
				for to := from + 1; to <= 8; to++ {
					x := filled(t, 1, wins(a, b))
					if to <= a || from >= b {
						wantTake(t, x, 1, win(from, to), api.OK)
						continue
					}
					wantTake(t, x, 1, win(from, to), api.ErrThere)
					if got := x.Taken(1); !slices.Equal(got, wins(a, b)) {
						t.Errorf("%d to %d was refused: Taken %v, was %d to %d", from, to, got, a, b)
					}
				}
			}
		}
	}
}

func TestTakeIsHeldAgainstAllWindows(t *testing.T) {
	l := wins(10, 20, 40, 50, 20, 30, 60, 61, 0, 5)
	for _, w := range append(l, wins(4, 10, 5, 11, 5, 40, 29, 30, 30, 41, 30, 61, 49, 60, 50, 61, 60, 99, 0, api.MaxTime, 15, 45, 9, 62)...) {
		x := filled(t, 1, l)
		wantTake(t, x, 1, w, api.ErrThere)
		wantCell(t, "refused", x, 1, wins(0, 5, 10, 20, 20, 30, 40, 50, 60, 61), wins(5, 10, 30, 40, 50, 60, 61, api.MaxTime))
	}
	for _, w := range wins(5, 10, 6, 9, 30, 40, 30, 31, 39, 40, 50, 60, 61, api.MaxTime) {
		wantTake(t, filled(t, 1, l), 1, w, api.OK)
	}
}

func TestCellsStandApart(t *testing.T) {
	x := New()
	var free []api.Window
	for i, cell := range cells() {
		for _, other := range cells()[i:] {
			wantCell(t, "not taken yet", x, other, nil, always())
		}
		wantTake(t, x, cell, win(i+1, i+100), api.OK)
		wantTake(t, x, cell, win(i+1, i+100), api.ErrThere)
		free = append(free, win(i+1, i+100))
	}
	for i, cell := range cells() {
		for k, w := range free {
			if k != i {
				wantDrop(t, x, cell, w, api.ErrNone)
			}
		}
		wantCell(t, "taken", x, cell, free[i:i+1], wins(0, i+1, i+100, api.MaxTime))
		wantDrop(t, x, cell, free[i], api.OK)
		wantCell(t, "dropped", x, cell, nil, always())
	}
}

// many is so many windows, of which each second moment is free, beginning with 0.
func many(number int) []api.Window {
	var l []api.Window
	for i := range number {
		l = append(l, win(2*i+1, 2*i+2))
	}
	return l
}

func TestACellHasNoMoreThanMaxWindows(t *testing.T) {
	l := many(4096)
	back := slices.Clone(l)
	slices.Reverse(back)
	mixed := slices.Clone(l)
	for i, draw := len(mixed)-1, sample.Numbers(1); i > 0; i-- {
		k := draw(i + 1)
		mixed[i], mixed[k] = mixed[k], mixed[i]
	}
	for _, order := range [][]api.Window{l, back, mixed} {
		x := filled(t, 7, order)
		if !slices.Equal(x.Taken(7), l) || len(x.Free(7)) != 4097 {
			t.Error("the windows of a full cell")
		}
		wantTake(t, x, 7, win(9000, 9001), api.ErrLong)
		wantTake(t, x, 7, win(0, 1), api.ErrLong)
		wantTake(t, x, 7, win(api.MaxTime-1, api.MaxTime), api.ErrLong)
		wantTake(t, x, 7, win(0, 2), api.ErrThere)
		wantTake(t, x, 7, win(8191, 8192), api.ErrThere)
		wantTake(t, x, 7, win(3, 3), api.ErrArg)
		wantTake(t, x, 7, win(-1, 1), api.ErrArg)
		if !slices.Equal(x.Taken(7), l) || !x.Is(7, 0) || !x.Is(7, 9000) {
			t.Error("a full cell, behind what was refused")
		}
		// Each cell has windows of its own.
		wantTake(t, x, 8, win(9000, 9001), api.OK)
		wantDrop(t, x, 7, win(4001, 4002), api.OK)
		wantTake(t, x, 7, win(9000, 9001), api.OK)
		wantTake(t, x, 7, win(9001, 9002), api.ErrLong)
		x.Forget(2)
		wantTake(t, x, 7, win(0, 2), api.OK)
		wantTake(t, x, 7, win(9001, 9002), api.ErrLong)
	}
}

func TestDropIsOfAWindowThatWasTaken(t *testing.T) {
	l := wins(3, 7, 7, 9, 20, 30)
	for _, w := range wins(3, 6, 4, 7, 4, 6, 3, 9, 3, 8, 6, 9, 2, 7, 7, 8, 8, 9, 20, 29, 21, 30, 19, 30, 20, 31, 0, 3, 9, 20, 30, 31, 0, api.MaxTime, 7, 7, 7, 3, 9, 7, 30, 20, 3, 3) {
		x := filled(t, 4, l)
		wantDrop(t, x, 4, w, api.ErrNone)
		wantDrop(t, x, 5, w, api.ErrNone)
		wantCell(t, "behind a Drop of none", x, 4, l, wins(0, 3, 9, 20, 30, api.MaxTime))
	}
	for _, w := range wrong() {
		x := filled(t, 4, l)
		wantDrop(t, x, 4, w, api.ErrNone)
		wantDrop(t, x, 5, w, api.ErrNone)
	}
	for i, free := range [][]api.Window{wins(0, 7, 9, 20, 30, api.MaxTime), wins(0, 3, 7, 20, 30, api.MaxTime), wins(0, 3, 9, api.MaxTime)} {
		x := filled(t, 4, l)
		wantDrop(t, x, 5, l[i], api.ErrNone)
		wantDrop(t, x, 4, l[i], api.OK)
		wantCell(t, "behind Drop", x, 4, slices.Delete(slices.Clone(l), i, i+1), free)
		wantDrop(t, x, 4, l[i], api.ErrNone)
		wantTake(t, x, 4, l[i], api.OK)
		wantCell(t, "taken again", x, 4, l, wins(0, 3, 9, 20, 30, api.MaxTime))
	}
}

func TestForgetDropsWhatHasEnded(t *testing.T) {
	l := wins(0, 5, 5, 10, 10, 20, 30, api.MaxTime)
	for _, c := range []struct{ moment, gone int }{
		{math.MinInt, 0}, {-1, 0}, {0, 0}, {1, 0}, {4, 0}, {5, 1}, {6, 1}, {9, 1}, {10, 2}, {11, 2}, {19, 2}, {20, 3}, {21, 3}, {30, 3}, {31, 3},
		{api.MaxTime - 1, 3}, {api.MaxTime, 4}, {api.MaxTime + 1, 4}, {math.MaxInt, 4},
	} {
		x, s := New(), &slow{}
		for _, cell := range cells() {
			for _, w := range l {
				wantTake(t, x, cell, w, api.OK)
				s.take(cell, w)
			}
		}
		x.Forget(c.moment)
		s.forget(c.moment)
		for _, cell := range cells() {
			if got := x.Taken(cell); !slices.Equal(got, l[c.gone:]) {
				t.Errorf("Forget(%d): Taken(%d) is %v, want %v", c.moment, cell, got, l[c.gone:])
			}
		}
		wantLike(t, "behind Forget", x, s, cells()...)
		for i, w := range l {
			want := api.OK
			if i < c.gone {
				want = api.ErrNone
			}
			wantDrop(t, x, 0, w, want)
		}
	}
}

func TestForgetIsOfEachCellByItself(t *testing.T) {
	x := New()
	for cell := range 100 {
		wantTake(t, x, cell, win(cell, cell+1), api.OK)
		wantTake(t, x, cell, win(cell+1, 200), api.OK)
	}
	for moment := range 100 {
		x.Forget(moment)
		for cell := range 100 {
			want := wins(cell, cell+1, cell+1, 200)
			if cell < moment {
				want = want[1:]
			}
			if got := x.Taken(cell); !slices.Equal(got, want) {
				t.Fatalf("Forget(%d): Taken(%d) is %v, want %v", moment, cell, got, want)
			}
		}
	}
}

func TestWhatWasForgottenIsTakenAgain(t *testing.T) {
	x := filled(t, 2, wins(0, 5, 8, 12))
	x.Forget(10)
	wantTake(t, x, 2, win(0, 8), api.OK)
	wantTake(t, x, 2, win(7, 8), api.ErrThere)
	wantTake(t, x, 2, win(8, 9), api.ErrThere)
	wantCell(t, "taken again", x, 2, wins(0, 8, 8, 12), wins(12, api.MaxTime))
	x.Forget(12)
	wantCell(t, "all forgotten", x, 2, nil, always())
}

// P6.2

func TestWindowsStandInOrder(t *testing.T) {
	x := filled(t, 1, wins(70, 80, 10, 20, 50, 55, 30, 40, 0, 10, 90, 91))
	wantCell(t, "in order", x, 1, wins(0, 10, 10, 20, 30, 40, 50, 55, 70, 80, 90, 91), wins(20, 30, 40, 50, 55, 70, 80, 90, 91, api.MaxTime))
}

func TestWindowsThatTouchLeaveNothingFreeBetween(t *testing.T) {
	x := filled(t, 1, wins(0, 3, 6, 9, 3, 6))
	wantCell(t, "from 0 on", x, 1, wins(0, 3, 3, 6, 6, 9), wins(9, api.MaxTime))
	wantTake(t, x, 1, win(9, api.MaxTime), api.OK)
	wantCell(t, "always", x, 1, wins(0, 3, 3, 6, 6, 9, 9, api.MaxTime), nil)
	wantDrop(t, x, 1, win(3, 6), api.OK)
	wantCell(t, "but for some time", x, 1, wins(0, 3, 6, 9, 9, api.MaxTime), wins(3, 6))
	wantDrop(t, x, 1, win(6, 9), api.OK)
	wantCell(t, "but for some more", x, 1, wins(0, 3, 9, api.MaxTime), wins(3, 9))
}

func TestNoMomentBeyondTimeIsFree(t *testing.T) {
	x := filled(t, 1, wins(5, 6))
	for _, cell := range []int{0, 1} {
		for _, moment := range edges() {
			if got, want := x.Is(cell, moment), moment >= 0 && moment < 1048576; got != want {
				t.Errorf("Is(%d, %d) is %v, want %v", cell, moment, got, want)
			}
		}
	}
}

func TestNilTable(t *testing.T) {
	var x *Table
	for _, cell := range cells() {
		for _, w := range append(wrong(), wins(0, 1, 3, 7, 0, api.MaxTime)...) {
			wantTake(t, x, cell, w, api.ErrNone)
			wantDrop(t, x, cell, w, api.ErrNone)
		}
		x.Forget(cell)
		wantCell(t, "nil", x, cell, nil, nil)
	}
}

// step is one call: a Take, a Drop, or a Forget of where w begins.
type step struct {
	kind, cell int
	w          api.Window
}

const (
	take = iota
	drop
	forget
	kinds
)

// do makes a call, and holds its answer against the slow one.
func do(t *testing.T, x *Table, s *slow, c step) {
	t.Helper()
	switch c.kind {
	case take:
		wantTake(t, x, c.cell, c.w, s.take(c.cell, c.w))
	case drop:
		wantDrop(t, x, c.cell, c.w, s.drop(c.cell, c.w))
	default:
		x.Forget(c.w.From)
		s.forget(c.w.From)
	}
}

func TestAllOrdersOfCalls(t *testing.T) {
	var calls []step
	for from := range 3 {
		calls = append(calls, step{forget, 0, win(from+1, 0)})
		for to := from + 1; to <= 3; to++ {
			calls = append(calls, step{take, 0, win(from, to)}, step{drop, 0, win(from, to)})
		}
	}
	sample.Orders(calls, 4, func(made []step) {
		x, s := New(), &slow{}
		for _, c := range made {
			do(t, x, s, c)
		}
		if got, free := x.Taken(0), x.Free(0); !slices.Equal(got, s.of(0)) || !slices.Equal(free, s.free(0)) {
			t.Fatalf("%v: Taken %v, want %v; Free %v, want %v", made, got, s.of(0), free, s.free(0))
		}
	})
}

func TestManyMixedCalls(t *testing.T) {
	for seed := range 60 {
		draw := sample.Numbers(seed)
		x, s := New(), &slow{}
		where := []int{0, 1, -1}[:1+seed%3]
		// The windows of some seeds lie at the beginning of time, those of others at its end.
		first := seed % 2 * (api.MaxTime - 60)
		for i := range 400 {
			c := step{kind: draw(kinds), cell: where[draw(len(where))]}
			c.w.From = first - 2 + draw(62)
			c.w.To = c.w.From + draw(6)
			if l := x.Taken(c.cell); c.kind == drop && len(l) > 0 && draw(2) == 0 {
				c.w = l[draw(len(l))]
			}
			if c.kind == forget && draw(15) > 0 {
				c.kind = take
			}
			do(t, x, s, c)
			if i%10 == 0 {
				wantLike(t, "mixed calls", x, s, where...)
			}
			if t.Failed() {
				t.Fatalf("seed %d, call %d: %v", seed, i, c)
			}
		}
	}
}

// P6.3

func TestEachMomentIsFreeOrTaken(t *testing.T) {
	for seed := range 4 {
		draw := sample.Numbers(seed)
		x := New()
		for range 300 * seed {
			from := draw(1<<14)*64 + draw(64)
			x.Take(3, win(from, min(from+1+draw(5000), api.MaxTime)))
		}
		many := make([]int, api.MaxTime)
		for _, w := range append(x.Free(3), x.Taken(3)...) {
			for moment := w.From; moment < w.To; moment++ {
				many[moment]++
			}
		}
		if at := slices.IndexFunc(many, func(n int) bool { return n != 1 }); at >= 0 {
			t.Errorf("seed %d: the moment %d lies in %d windows", seed, at, many[at])
		}
		for _, w := range x.Free(3) {
			for moment := w.From; moment < w.To; moment++ {
				many[moment]--
			}
		}
		for moment, n := range many {
			if x.Is(3, moment) != (n == 0) {
				t.Fatalf("seed %d: Is(3, %d) is %v, but Free says otherwise", seed, moment, n != 0)
			}
		}
	}
}

func TestFreeWindowsAreRightAndDoNotTouch(t *testing.T) {
	for seed := range 50 {
		draw := sample.Numbers(seed)
		x := New()
		for range 100 {
			from := draw(300)
			x.Take(0, win(from, from+1+draw(5)))
		}
		last := -1
		for _, w := range x.Free(0) {
			if w.From <= last || w.To <= w.From || w.To > api.MaxTime {
				t.Errorf("seed %d: %v behind one that ends at %d", seed, w, last)
			}
			last = w.To
		}
	}
}

// P6.4

func TestWhatWasTakenAndDroppedLeavesAllAsItWas(t *testing.T) {
	for seed := range 40 {
		draw := sample.Numbers(seed)
		anyWindow := func() api.Window {
			from := draw(200)
			return win(from, from+1+draw(8))
		}
		x, s := New(), &slow{}
		for range draw(40) {
			do(t, x, s, step{take, draw(2), anyWindow()})
		}
		was := [][]api.Window{x.Taken(0), x.Taken(1)}
		var more []step
		for range 60 {
			c := step{take, draw(3), anyWindow()}
			if x.Take(c.cell, c.w) == api.OK {
				more = append(more, c)
			}
		}
		for len(more) > 0 {
			at := draw(len(more))
			wantDrop(t, x, more[at].cell, more[at].w, api.OK)
			more = slices.Delete(more, at, at+1)
		}
		if !slices.Equal(x.Taken(0), was[0]) || !slices.Equal(x.Taken(1), was[1]) {
			t.Errorf("seed %d: Taken %v and %v, was %v", seed, x.Taken(0), x.Taken(1), was)
		}
		wantLike(t, "taken and dropped", x, s, 0, 1, 2)
	}
}

func TestAFullCellThatIsDroppedIsFree(t *testing.T) {
	l := many(4096)
	x := filled(t, 1, l)
	for _, w := range l {
		wantDrop(t, x, 1, w, api.OK)
	}
	wantCell(t, "all dropped", x, 1, nil, always())
	for _, w := range l {
		wantTake(t, x, 1, w, api.OK)
	}
	wantTake(t, x, 1, win(0, 1), api.ErrLong)
}

// Rules 3 to 6

func TestTablesStandApart(t *testing.T) {
	one, other := New(), New()
	wantTake(t, one, 1, win(3, 7), api.OK)
	wantTake(t, other, 1, win(5, 9), api.OK)
	wantDrop(t, other, 1, win(3, 7), api.ErrNone)
	other.Forget(api.MaxTime)
	wantCell(t, "one", one, 1, wins(3, 7), wins(0, 3, 7, api.MaxTime))
	wantCell(t, "the other", other, 1, nil, always())
}

func TestAnswersAreTheCallers(t *testing.T) {
	l := wins(3, 7, 9, 12, 20, 30)
	free := wins(0, 3, 7, 9, 12, 20, 30, api.MaxTime)
	x := filled(t, 1, l)
	first, second := x.Taken(1), x.Taken(1)
	firstFree, secondFree := x.Free(1), x.Free(1)
	for _, answer := range [][]api.Window{first, firstFree} {
		answer = answer[:cap(answer)]
		for i := range answer {
			answer[i] = win(99, 100)
		}
	}
	if !slices.Equal(second, l) || !slices.Equal(secondFree, free) {
		t.Errorf("behind a change of other answers: %v, %v", second, secondFree)
	}
	wantCell(t, "behind a change of answers", x, 1, l, free)
	wantTake(t, x, 1, win(0, 1), api.OK)
	wantDrop(t, x, 1, win(9, 12), api.OK)
	x.Forget(7)
	if !slices.Equal(second, l) || !slices.Equal(secondFree, free) {
		t.Errorf("behind later calls: %v, %v", second, secondFree)
	}
}

func TestWhatOnlyAsksChangesNothing(t *testing.T) {
	x := filled(t, 1, wins(3, 7, 9, 12))
	for range 3 {
		for _, cell := range []int{0, 1} {
			for _, moment := range edges() {
				x.Is(cell, moment)
			}
			x.Free(cell)
			x.Taken(cell)
		}
		wantCell(t, "asked", x, 1, wins(3, 7, 9, 12), wins(0, 3, 7, 9, 12, api.MaxTime))
		wantCell(t, "asked", x, 0, nil, always())
	}
}

func TestTheSameCallsAnswerTheSame(t *testing.T) {
	once := func() []api.Window {
		draw := sample.Numbers(7)
		x := New()
		var told []api.Window
		for i := range 2000 {
			from := draw(400)
			x.Take(draw(30), win(from, from+1+draw(9)))
			if i%100 == 99 {
				x.Forget(i / 10)
			}
		}
		for cell := range 30 {
			told = append(told, x.Taken(cell)...)
			told = append(told, x.Free(cell)...)
		}
		return told
	}
	want := once()
	for range 5 {
		if !slices.Equal(once(), want) {
			t.Error("two tables that were told the same differ")
		}
	}
}
