package lock

import (
	"math"
	"slices"
	"testing"

	"carfax/api"
	"carfax/sample"
)

// slow is all that is held, in no order, gone through for each question.
type slow struct{ held []pair }

type pair struct{ robot, zone int }

// number tells whether a number is from 0 to another one.
func number(n, last int) bool { return n >= 0 && n <= last }

func (s *slow) owner(zone int) (int, bool) {
	for _, p := range s.held {
		if p.zone == zone {
			return p.robot, true
		}
	}
	return 0, false
}

func (s *slow) hold(robot, zone int) api.Errno {
	if !number(robot, 7) || !number(zone, 25) {
		return api.ErrArg
	}
	if slices.Contains(s.held, pair{robot, zone}) {
		return api.OK
	}
	if _, is := s.owner(zone); is {
		return api.ErrThere
	}
	s.held = append(s.held, pair{robot, zone})
	return api.OK
}

func (s *slow) release(robot, zone int) api.Errno {
	if !number(robot, 7) || !number(zone, 25) {
		return api.ErrArg
	}
	at := slices.Index(s.held, pair{robot, zone})
	if at < 0 {
		return api.ErrNone
	}
	s.held = slices.Delete(s.held, at, at+1)
	return api.OK
}

func (s *slow) of(robot int) []int {
	var l []int
	for _, p := range s.held {
		if p.robot == robot {
			l = append(l, p.zone)
		}
	}
	slices.Sort(l)
	return l
}

func (s *slow) free() []int {
	return slices.DeleteFunc(zones(), func(zone int) bool {
		_, is := s.owner(zone)
		return is
	})
}

// zones is all zones, rising.
func zones() []int {
	var l []int
	for zone := range 26 {
		l = append(l, zone)
	}
	return l
}

func list(numbers ...int) []int { return numbers }

// outside is numbers that are neither robots nor zones; some of them are one, if their lowest bits alone are looked at.
func outside() []int {
	return list(-1, -2, -7, -8, -25, -26, -32, -256, 26, 27, 32, 33, 64, 128, 255, 256, 1<<16, 1<<32, 1<<32+1, 1<<62, math.MinInt32, math.MinInt, math.MinInt+1, math.MaxInt32, math.MaxInt-1, math.MaxInt)
}

func wantHold(t *testing.T, x *Table, robot, zone int, want api.Errno) {
	t.Helper()
	if e := x.Hold(robot, zone); e != want {
		t.Errorf("Hold(%d, %d) is %d, want %d", robot, zone, e, want)
	}
}

func wantRelease(t *testing.T, x *Table, robot, zone int, want api.Errno) {
	t.Helper()
	if e := x.Release(robot, zone); e != want {
		t.Errorf("Release(%d, %d) is %d, want %d", robot, zone, e, want)
	}
}

func wantOwner(t *testing.T, x *Table, zone, want int, held bool) {
	t.Helper()
	if who, is := x.Owner(zone); who != want || is != held {
		t.Errorf("Owner(%d) is %d, %v, want %d, %v", zone, who, is, want, held)
	}
}

func wantOf(t *testing.T, x *Table, robot int, want ...int) {
	t.Helper()
	if got := x.Of(robot); !slices.Equal(got, want) {
		t.Errorf("Of(%d) is %v, want %v", robot, got, want)
	}
}

func wantFree(t *testing.T, x *Table, want ...int) {
	t.Helper()
	if got := x.Free(); !slices.Equal(got, want) {
		t.Errorf("Free is %v, want %v", got, want)
	}
}

// wantLike asks for all that is said of a table, also of numbers that are neither robots nor zones.
func wantLike(t *testing.T, x *Table, s *slow) {
	t.Helper()
	for n := -40; n <= 70; n++ {
		who, held := s.owner(n)
		wantOwner(t, x, n, who, held)
		wantOf(t, x, n, s.of(n)...)
	}
	for _, n := range outside() {
		wantOwner(t, x, n, 0, false)
		wantOf(t, x, n)
	}
	wantFree(t, x, s.free()...)
}

// told is a table by which robots hold zones, and the slow one.
func told(t *testing.T, held ...pair) (*Table, *slow) {
	t.Helper()
	x := New()
	for _, p := range held {
		wantHold(t, x, p.robot, p.zone, api.OK)
	}
	return x, &slow{held: slices.Clone(held)}
}

// some is robots with no zone, one, and more, the first and the last ones among them.
func some() []pair {
	return []pair{{7, 25}, {0, 0}, {3, 12}, {7, 3}, {3, 1}, {0, 24}, {7, 4}}
}

// shared is all zones, one behind the other for each robot in turn.
func shared() []pair {
	var l []pair
	for zone := range 26 {
		l = append(l, pair{zone % 8, zone})
	}
	return l
}

// P9.1

func TestExample(t *testing.T) {
	x := New()
	wantHold(t, x, 1, 5, api.OK)
	wantHold(t, x, 2, 5, api.ErrThere)
	wantOwner(t, x, 5, 1, true)
	wantRelease(t, x, 2, 5, api.ErrNone)
	wantRelease(t, x, 1, 5, api.OK)
	wantLike(t, x, &slow{})
}

func TestNobodyHoldsAnythingAtFirst(t *testing.T) {
	for _, x := range []*Table{New(), {}} {
		wantLike(t, x, &slow{})
		wantFree(t, x, zones()...)
		for robot := range 8 {
			for zone := range 26 {
				wantRelease(t, x, robot, zone, api.ErrNone)
			}
		}
		wantLike(t, x, &slow{})
	}
}

func TestTheZeroTableIsHeld(t *testing.T) {
	x := &Table{}
	wantHold(t, x, 0, 0, api.OK)
	wantHold(t, x, 1, 0, api.ErrThere)
	wantLike(t, x, &slow{held: []pair{{0, 0}}})
}

func TestEachRobotHoldsEachZone(t *testing.T) {
	for robot := range 8 {
		for zone := range 26 {
			x, s := told(t, pair{robot, zone})
			wantLike(t, x, s)
			for other := range 8 {
				if other == robot {
					continue
				}
				wantHold(t, x, other, zone, api.ErrThere)
				wantRelease(t, x, other, zone, api.ErrNone)
			}
			wantLike(t, x, s)
			wantRelease(t, x, robot, zone, api.OK)
			wantLike(t, x, &slow{})
			wantRelease(t, x, robot, zone, api.ErrNone)
		}
	}
}

func TestHoldOfWhatItHoldsIsOKAndNothingHappens(t *testing.T) {
	x, s := told(t, some()...)
	for _, p := range some() {
		wantHold(t, x, p.robot, p.zone, api.OK)
		wantHold(t, x, p.robot, p.zone, api.OK)
	}
	wantLike(t, x, s)
	for _, p := range some() {
		// Once is enough, however often it was held.
		wantRelease(t, x, p.robot, p.zone, api.OK)
		wantRelease(t, x, p.robot, p.zone, api.ErrNone)
	}
	wantLike(t, x, &slow{})
}

func TestOneHoldsAllZones(t *testing.T) {
	for robot := range 8 {
		x := New()
		for zone := range 26 {
			wantHold(t, x, robot, zone, api.OK)
		}
		wantOf(t, x, robot, zones()...)
		wantFree(t, x)
		for other := range 8 {
			if other != robot {
				wantOf(t, x, other)
			}
		}
		for zone := range 26 {
			wantHold(t, x, (robot+1)%8, zone, api.ErrThere)
			wantRelease(t, x, robot, zone, api.OK)
			wantOf(t, x, robot, zones()[zone+1:]...)
			wantFree(t, x, zones()[:zone+1]...)
		}
	}
}

func TestReleaseIsOfOneZoneAlone(t *testing.T) {
	for i, p := range shared() {
		x, s := told(t, shared()...)
		wantRelease(t, x, p.robot, p.zone, api.OK)
		s.held = slices.Delete(s.held, i, i+1)
		wantLike(t, x, s)
		wantFree(t, x, p.zone)
	}
}

func TestWhatWasReleasedIsGivenOn(t *testing.T) {
	x, s := told(t, shared()...)
	for _, p := range shared() {
		next := (p.robot + 3) % 8
		wantHold(t, x, next, p.zone, api.ErrThere)
		wantRelease(t, x, p.robot, p.zone, api.OK)
		wantHold(t, x, next, p.zone, api.OK)
		wantHold(t, x, p.robot, p.zone, api.ErrThere)
		wantRelease(t, x, p.robot, p.zone, api.ErrNone)
		s.held[slices.Index(s.held, p)].robot = next
		wantLike(t, x, s)
	}
}

func TestNumbersThatAreNone(t *testing.T) {
	for _, held := range [][]pair{nil, some(), shared()} {
		x, s := told(t, held...)
		wantWrong := func(robot, zone int) {
			t.Helper()
			wantHold(t, x, robot, zone, api.ErrArg)
			wantRelease(t, x, robot, zone, api.ErrArg)
		}
		for _, n := range outside() {
			for robot := range 8 {
				wantWrong(robot, n)
			}
			for zone := range 26 {
				wantWrong(n, zone)
			}
			wantWrong(n, n)
		}
		// These are zones, but no robots.
		for robot := 8; robot <= 25; robot++ {
			wantWrong(robot, 0)
			wantWrong(robot, robot)
		}
		wantLike(t, x, s)
	}
}

// P9.2

func TestZonesStandRising(t *testing.T) {
	x, s := told(t, pair{5, 25}, pair{5, 3}, pair{5, 17}, pair{5, 0}, pair{5, 4}, pair{2, 10}, pair{2, 9})
	wantOf(t, x, 5, 0, 3, 4, 17, 25)
	wantOf(t, x, 2, 9, 10)
	wantFree(t, x, 1, 2, 5, 6, 7, 8, 11, 12, 13, 14, 15, 16, 18, 19, 20, 21, 22, 23, 24)
	wantRelease(t, x, 5, 3, api.OK)
	wantHold(t, x, 5, 3, api.OK)
	wantLike(t, x, s)
}

func TestRobot0IsNotNobody(t *testing.T) {
	x, _ := told(t, pair{0, 0}, pair{0, 7})
	wantOwner(t, x, 0, 0, true)
	wantOwner(t, x, 7, 0, true)
	wantOwner(t, x, 1, 0, false)
	wantOf(t, x, 0, 0, 7)
	wantHold(t, x, 1, 7, api.ErrThere)
	wantRelease(t, x, 0, 1, api.ErrNone)
	wantRelease(t, x, 0, 7, api.OK)
	wantOwner(t, x, 7, 0, false)
	wantOf(t, x, 0, 0)
}

func TestOwnerOfWhatOthersHeldAheadIsNobody(t *testing.T) {
	for robot := range 8 {
		x, _ := told(t, pair{robot, 9})
		wantRelease(t, x, robot, 9, api.OK)
		wantOwner(t, x, 9, 0, false)
		wantFree(t, x, zones()...)
	}
}

func TestNilTable(t *testing.T) {
	var x *Table
	for _, n := range append(outside(), zones()...) {
		for _, other := range list(-1, 0, 7, 8, 25, 26, n) {
			wantHold(t, x, n, other, api.ErrNone)
			wantRelease(t, x, n, other, api.ErrNone)
		}
		wantOwner(t, x, n, 0, false)
		wantOf(t, x, n)
	}
	wantFree(t, x)
}

// P9.3

// wantApart counts for each zone how often Of and Free name it.
func wantApart(t *testing.T, x *Table) {
	t.Helper()
	var many [26]int
	for _, zone := range x.Free() {
		many[zone]++
		wantOwner(t, x, zone, 0, false)
	}
	for robot := range 8 {
		for _, zone := range x.Of(robot) {
			many[zone]++
			wantOwner(t, x, zone, robot, true)
		}
	}
	for zone, n := range many {
		if n != 1 {
			t.Errorf("the zone %d is of %d", zone, n)
		}
	}
}

// call is a Hold, or a Release.
type call struct {
	release     bool
	robot, zone int
}

// do makes a call, and holds its answer against the slow one.
func do(t *testing.T, x *Table, s *slow, c call) {
	t.Helper()
	if c.release {
		wantRelease(t, x, c.robot, c.zone, s.release(c.robot, c.zone))
		return
	}
	wantHold(t, x, c.robot, c.zone, s.hold(c.robot, c.zone))
}

func TestAllOrdersOfCalls(t *testing.T) {
	var calls []call
	for _, robot := range list(0, 7) {
		for _, zone := range list(0, 25) {
			calls = append(calls, call{false, robot, zone}, call{true, robot, zone})
		}
	}
	sample.Orders(calls, 5, func(made []call) {
		x, s := New(), &slow{}
		for _, c := range made {
			do(t, x, s, c)
		}
		for _, zone := range list(0, 1, 25) {
			who, held := s.owner(zone)
			wantOwner(t, x, zone, who, held)
		}
		wantOf(t, x, 0, s.of(0)...)
		wantOf(t, x, 7, s.of(7)...)
		wantFree(t, x, s.free()...)
		if t.Failed() {
			t.Fatalf("behind %v", made)
		}
	})
}

func TestManyMixedCalls(t *testing.T) {
	var refused, done int
	for seed := range 60 {
		draw := sample.Numbers(seed)
		x, s := New(), &slow{}
		// The calls of some seeds are of few zones, so that many are refused.
		below := 1 + seed%26
		for range 300 {
			c := call{draw(2) == 0, draw(10) - 1, draw(below+2) - 1}
			if at := draw(len(s.held) + 1); c.release && at < len(s.held) {
				c.robot, c.zone = s.held[at].robot, s.held[at].zone
			}
			before := len(s.held)
			do(t, x, s, c)
			if len(s.held) == before {
				refused++
			} else {
				done++
			}
			wantLike(t, x, s)
			wantApart(t, x)
			if t.Failed() {
				t.Fatalf("seed %d: %v", seed, c)
			}
		}
	}
	if refused < 1000 || done < 1000 {
		t.Errorf("%d refused and %d done are too few", refused, done)
	}
}

// Rules 2 to 6

func TestWhatIsRefusedChangesNothing(t *testing.T) {
	x, s := told(t, shared()...)
	for _, p := range shared() {
		for robot := -1; robot <= 8; robot++ {
			if robot == p.robot {
				continue
			}
			if x.Hold(robot, p.zone) == api.OK || x.Release(robot, p.zone) == api.OK {
				t.Errorf("%d holds or releases the zone %d of %d", robot, p.zone, p.robot)
			}
		}
	}
	wantLike(t, x, s)
}

func TestTablesStandApart(t *testing.T) {
	one, s := told(t, some()...)
	other, _ := told(t, pair{1, 25}, pair{1, 0})
	wantRelease(t, other, 7, 25, api.ErrNone)
	wantRelease(t, one, 1, 0, api.ErrNone)
	wantLike(t, one, s)
	wantLike(t, other, &slow{held: []pair{{1, 25}, {1, 0}}})
	wantLike(t, New(), &slow{})
}

func TestAnswersAreTheCallers(t *testing.T) {
	x, s := told(t, some()...)
	ask := func() [][]int { return [][]int{x.Of(7), x.Of(3), x.Free()} }
	first, second := ask(), ask()
	want := [][]int{s.of(7), s.of(3), s.free()}
	for _, l := range first {
		l = l[:cap(l)]
		for i := range l {
			l[i] = 99
		}
	}
	wantLike(t, x, s)
	for _, p := range some() {
		wantRelease(t, x, p.robot, p.zone, api.OK)
	}
	for i, l := range second {
		if !slices.Equal(l, want[i]) {
			t.Errorf("behind a change of other answers, and later calls: %v, want %v", l, want[i])
		}
	}
}

func TestWhatOnlyAsksChangesNothing(t *testing.T) {
	x, s := told(t, some()...)
	for range 3 {
		wantLike(t, x, s)
	}
}

func TestTheSameCallsAnswerTheSame(t *testing.T) {
	once := func() []int {
		draw := sample.Numbers(7)
		x := New()
		var all []int
		for range 2000 {
			robot, zone := draw(8), draw(26)
			all = append(all, int(x.Hold(robot, zone)), int(x.Release(draw(8), zone)))
			all = append(all, x.Of(robot)...)
			all = append(all, x.Free()...)
		}
		return all
	}
	want := once()
	for range 5 {
		if !slices.Equal(once(), want) {
			t.Error("two tables that were told the same differ")
		}
	}
}
