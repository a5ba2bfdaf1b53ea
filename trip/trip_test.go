package trip

import (
	"math"
	"slices"
	"strings"
	"testing"

	"carfax/api"
	"carfax/floor"
	"carfax/path"
	"carfax/sample"
)

// The tests hold the package against slow answers: each of a promise's words is asked on its own, of all acts, on rows and places x and y.

const (
	whole = "0aab1\n#c#d#\n2eeff\n"
	line  = "0aab1\n"
	// Between the lanes 0 and 2 is a dock.
	between = "a0b\nc1d\nefg\n"
)

var goTo, lift, drop = sample.Go, sample.Lift, sample.Drop

func acts(l ...api.Act) []api.Act { return l }

func list(numbers ...int) []int { return numbers }

func parsed(t *testing.T, s string) api.Floor {
	t.Helper()
	f, row, e := floor.Parse(s)
	if e != api.OK {
		t.Fatalf("Parse(%q): row %d, error %d", s, row, e)
	}
	return f
}

func byteAt(f api.Floor, cell int) byte {
	if cell < 0 || cell >= len(f.Cells) {
		return '#'
	}
	return f.Cells[cell]
}

func slowLane(f api.Floor, cell int) bool { return byteAt(f, cell) >= 'a' && byteAt(f, cell) <= 'z' }

func slowDock(f api.Floor, robot int) (int, bool) {
	if !floor.Right(f) || robot < 0 || robot > 7 {
		return 0, false
	}
	dock := strings.IndexByte(f.Cells, '0'+byte(robot))
	return dock, dock >= 0
}

// slowMake lays the three ways behind one another.
func slowMake(f api.Floor, robot, pod, from, to int, blocked []int) ([]api.Act, api.Errno) {
	dock, is := slowDock(f, robot)
	if !is || pod < 0 || pod > 63 || !slowLane(f, from) || !slowLane(f, to) {
		return nil, api.ErrArg
	}
	var l []api.Act
	ends := list(dock, from, to, dock)
	for i := range 3 {
		way, e := path.Find(f, ends[i], ends[i+1], blocked)
		if e != api.OK {
			return nil, api.ErrNone
		}
		for _, cell := range way {
			l = append(l, goTo(cell))
		}
		switch i {
		case 0:
			l = append(l, lift(pod, from))
		case 1:
			l = append(l, drop(pod, to))
		}
	}
	return l, api.OK
}

func apart(f api.Floor, cell, other int) int {
	x, y := cell%f.W-other%f.W, cell/f.W-other/f.W
	return max(x, -x) + max(y, -y)
}

// where is the cell in which a robot is behind acts.
func where(at int, l []api.Act) int {
	for _, a := range l {
		if a.Kind == api.ActGo {
			at = a.Cell
		}
	}
	return at
}

// turns is the lifts and drops among acts.
func turns(l []api.Act) []api.Act {
	return slices.DeleteFunc(slices.Clone(l), func(a api.Act) bool { return a.Kind != api.ActLift && a.Kind != api.ActDrop })
}

func slowRight(f api.Floor, robot, at int, l []api.Act) bool {
	dock, is := slowDock(f, robot)
	if !is || at != dock && !slowLane(f, at) || len(l) > 1024 || where(at, l) != dock {
		return false
	}
	for i, a := range l {
		is := where(at, l[:i])
		switch a.Kind {
		case api.ActGo:
			if !slowLane(f, a.Cell) && a.Cell != dock || apart(f, is, a.Cell) != 1 || a.Pod != 0 {
				return false
			}
		case api.ActLift, api.ActDrop:
			if a.Cell != is || !slowLane(f, is) || a.Pod < 0 || a.Pod > 63 {
				return false
			}
		default:
			return false
		}
	}
	return slowTurns(turns(l))
}

func slowTurns(l []api.Act) bool {
	for i, a := range l {
		if a.Kind == api.ActLift && (i == len(l)-1 || l[i+1].Kind != api.ActDrop || l[i+1].Pod != a.Pod) {
			return false
		}
		if a.Kind == api.ActDrop && i > 0 && l[i-1].Kind != api.ActLift {
			return false
		}
	}
	return true
}

// slowZones asks of each zone whether it is gone to.
func slowZones(f api.Floor, l []api.Act) []int {
	var zones []int
	for zone := range 26 {
		if floor.Right(f) && slices.ContainsFunc(l, func(a api.Act) bool {
			return a.Kind == api.ActGo && byteAt(f, a.Cell) == 'a'+byte(zone)
		}) {
			zones = append(zones, zone)
		}
	}
	return zones
}

// drawn is a trip on a floor, to and from lanes of it.
func drawn(t *testing.T, f api.Floor, draw func(below int) int) (int, []api.Act) {
	t.Helper()
	lanes, robot := floor.Lanes(f), draw(floor.Robots(f))
	l, e := Make(f, robot, draw(api.MaxPods), lanes[draw(len(lanes))], lanes[draw(len(lanes))], nil)
	if e != api.OK {
		t.Fatalf("%q: Make: error %d", f.Cells, e)
	}
	return robot, l
}

func wantTrip(t *testing.T, f api.Floor, robot, pod, from, to int, blocked []int, want []api.Act) {
	t.Helper()
	if got, e := Make(f, robot, pod, from, to, blocked); e != api.OK || !slices.Equal(got, want) {
		t.Errorf("%q: Make of robot %d, pod %d, from %d to %d with %v blocked: %v, error %d, want %v", f.Cells, robot, pod, from, to, blocked, got, e, want)
	}
}

func wantError(t *testing.T, f api.Floor, robot, pod, from, to int, blocked []int, want api.Errno) {
	t.Helper()
	if got, e := Make(f, robot, pod, from, to, blocked); e != want || len(got) != 0 {
		t.Errorf("%q: Make of robot %d, pod %d, from %d to %d with %v blocked: %v, error %d, want error %d", f.Cells, robot, pod, from, to, blocked, got, e, want)
	}
}

func wantSlowMake(t *testing.T, f api.Floor, robot, pod, from, to int, blocked []int) {
	t.Helper()
	want, e := slowMake(f, robot, pod, from, to, blocked)
	if e != api.OK {
		wantError(t, f, robot, pod, from, to, blocked, e)
	} else {
		wantTrip(t, f, robot, pod, from, to, blocked, want)
	}
}

func wantRight(t *testing.T, f api.Floor, robot, at int, l []api.Act, want bool) {
	t.Helper()
	if Right(f, robot, at, l) != want {
		t.Errorf("%q: Right of robot %d at %d: %v of %v", f.Cells, robot, at, !want, l)
	}
}

func wantZones(t *testing.T, f api.Floor, l []api.Act, want []int) {
	t.Helper()
	if got := Zones(f, l); !slices.Equal(got, want) {
		t.Errorf("%q: Zones of %v: %v, want %v", f.Cells, l, got, want)
	}
}

func wantCost(t *testing.T, l []api.Act, want int) {
	t.Helper()
	if got := Cost(l); got != want {
		t.Errorf("Cost of %v: %d, want %d", l, got, want)
	}
}

// P10.1

func TestMakeOfTheExample(t *testing.T) {
	f := parsed(t, line)
	wantTrip(t, f, 0, 5, 2, 3, nil, acts(goTo(1), goTo(2), lift(5, 2), goTo(3), drop(5, 3), goTo(2), goTo(1), goTo(0)))
	wantTrip(t, f, 1, 0, 2, 3, nil, acts(goTo(3), goTo(2), lift(0, 2), goTo(3), drop(0, 3), goTo(4)))
	wantTrip(t, f, 1, 63, 3, 1, nil, acts(goTo(3), lift(63, 3), goTo(2), goTo(1), drop(63, 1), goTo(2), goTo(3), goTo(4)))
}

func TestMakeOfAWayOfNoSteps(t *testing.T) {
	f := parsed(t, line)
	wantTrip(t, f, 0, 5, 1, 1, nil, acts(goTo(1), lift(5, 1), drop(5, 1), goTo(0)))
	wantTrip(t, f, 0, 5, 2, 2, nil, acts(goTo(1), goTo(2), lift(5, 2), drop(5, 2), goTo(1), goTo(0)))
}

func TestMakeGoesRoundWhatIsBlocked(t *testing.T) {
	f := parsed(t, whole)
	wantTrip(t, f, 0, 1, 1, 3, list(2), acts(goTo(1), lift(1, 1), goTo(6), goTo(11), goTo(12), goTo(13), goTo(8), goTo(3), drop(1, 3),
		goTo(8), goTo(13), goTo(12), goTo(11), goTo(6), goTo(1), goTo(0)))
	// Another robot's dock is not gone through.
	g := parsed(t, between)
	wantTrip(t, g, 0, 1, 0, 2, nil, acts(goTo(0), lift(1, 0), goTo(3), goTo(6), goTo(7), goTo(8), goTo(5), goTo(2), drop(1, 2), goTo(1)))
}

func TestMakeOfWrongArguments(t *testing.T) {
	f := parsed(t, whole)
	for _, blocked := range [][]int{nil, list(1, 2, 3)} {
		for _, n := range append(sample.Outside(), 3, 7, 8, 9) {
			wantError(t, f, n, 5, 1, 2, blocked, api.ErrArg)
		}
		for _, n := range append(sample.Outside(), 64, 65, 128) {
			wantError(t, f, 0, n, 1, 2, blocked, api.ErrArg)
		}
		// Walls, docks, his own too, and what is no cell.
		for _, n := range append(sample.Outside(), 0, 4, 5, 7, 9, 10, 15, 16) {
			wantError(t, f, 0, 5, n, 2, blocked, api.ErrArg)
			wantError(t, f, 0, 5, 2, n, blocked, api.ErrArg)
			wantError(t, f, 0, 5, n, n, blocked, api.ErrArg)
		}
	}
	for _, f := range sample.Wrong() {
		wantError(t, f, 0, 5, 1, 1, nil, api.ErrArg)
		wantError(t, f, 0, 5, 1, 2, nil, api.ErrArg)
		wantError(t, f, 0, 5, 0, 0, nil, api.ErrArg)
	}
}

func TestMakeOfEachRobotAndPod(t *testing.T) {
	f := parsed(t, "01234567\nabcdefgh\n")
	for robot := range 9 {
		for pod := range 66 {
			wantSlowMake(t, f, robot, pod, 15-pod%8, 8+pod%7, nil)
		}
	}
}

func TestMakeOfNoWay(t *testing.T) {
	f := parsed(t, whole)
	wantError(t, f, 0, 5, 2, 3, list(1), api.ErrNone)     // none to the pod
	wantError(t, f, 0, 5, 2, 3, list(2), api.ErrNone)     // it is blocked where the pod is
	wantError(t, f, 0, 5, 2, 3, list(3), api.ErrNone)     // and where it shall be
	wantError(t, f, 0, 5, 1, 3, list(2, 12), api.ErrNone) // none from here to there
	wantError(t, f, 0, 5, 2, 3, list(0), api.ErrNone)     // none back: only his own dock is blocked
	wantError(t, f, 0, 5, 2, 2, list(2), api.ErrNone)     // a way of no steps is there, but none to it
	wantError(t, f, 0, 5, 2, 2, list(0), api.ErrNone)
	// What is not on any of the three ways may be blocked.
	wantTrip(t, f, 0, 5, 1, 2, append(sample.Outside(), 3, 4, 5, 7, 10, 13), acts(goTo(1), lift(5, 1), goTo(2), drop(5, 2), goTo(1), goTo(0)))
}

func TestMakeOnSmallFloors(t *testing.T) {
	for seed := range 150 {
		draw := sample.Numbers(seed)
		f := sample.Floor(3, draw, floor.Right)
		for robot := -1; robot <= floor.Robots(f); robot++ {
			for from := -1; from <= len(f.Cells); from++ {
				for to := -1; to <= len(f.Cells); to++ {
					wantSlowMake(t, f, robot, draw(64), from, to, nil)
					wantSlowMake(t, f, robot, draw(70)-3, from, to, list(draw(len(f.Cells)), draw(len(f.Cells))))
				}
			}
		}
	}
}

func TestMakeOnMixedFloors(t *testing.T) {
	made, none := 0, 0
	for seed := range 300 {
		draw := sample.Numbers(seed)
		f := sample.Floor(10, draw, floor.Right)
		lanes := floor.Lanes(f)
		var blocked []int
		for range draw(6) {
			blocked = append(blocked, draw(len(f.Cells)))
		}
		robot, from, to := draw(floor.Robots(f)), lanes[draw(len(lanes))], lanes[draw(len(lanes))]
		wantSlowMake(t, f, robot, draw(64), from, to, blocked)
		if _, e := Make(f, robot, 0, from, to, blocked); e == api.OK {
			made++
		} else {
			none++
		}
	}
	if made < 50 || none < 50 {
		t.Errorf("only %d trips were made, and %d not", made, none)
	}
}

// P10.2

func TestRightOfTheExample(t *testing.T) {
	f := parsed(t, line)
	wantRight(t, f, 0, 0, acts(goTo(1), goTo(2), lift(5, 2), goTo(3), drop(5, 3), goTo(2), goTo(1), goTo(0)), true)
	wantRight(t, f, 1, 4, acts(goTo(3), goTo(2), lift(5, 2), goTo(3), drop(5, 3), goTo(4)), true)
}

func TestRightOfNoActs(t *testing.T) {
	f := parsed(t, whole)
	for robot := range 3 {
		for cell := range f.Cells {
			dock, _ := floor.Dock(f, robot)
			wantRight(t, f, robot, cell, nil, cell == dock)
			wantRight(t, f, robot, cell, acts(), cell == dock)
		}
		for _, cell := range sample.Outside() {
			wantRight(t, f, robot, cell, nil, false)
		}
	}
	for _, robot := range append(sample.Outside(), 3, 7, 8) {
		wantRight(t, f, robot, 0, nil, false)
	}
	for _, f := range sample.Wrong() {
		wantRight(t, f, 0, 0, nil, false)
		wantRight(t, f, 0, 0, acts(goTo(1), goTo(0)), false)
		wantRight(t, f, 0, 1, acts(goTo(0)), false)
	}
}

func TestRightOfWhereItIs(t *testing.T) {
	f := parsed(t, whole)
	home := acts(goTo(1), goTo(0))
	wantRight(t, f, 0, 0, home, true)
	wantRight(t, f, 0, 2, home, true)
	wantRight(t, f, 0, 6, home, true)
	wantRight(t, f, 0, 1, home, false)  // it is there
	wantRight(t, f, 0, 3, home, false)  // too far
	wantRight(t, f, 0, 5, home, false)  // a wall
	wantRight(t, f, 0, -4, home, false) // no cell
	wantRight(t, f, 0, 1, home[1:], true)
	wantRight(t, f, 0, 0, home[1:], false)
	wantRight(t, f, 0, 0, home[:1], false) // not home
	// The dock of another robot, though the lane is beside it.
	g := parsed(t, "01\nab\n")
	wantRight(t, g, 0, 1, acts(goTo(3), goTo(2), goTo(0)), false)
	wantRight(t, g, 0, 1, acts(goTo(0)), false)
	wantRight(t, g, 1, 1, acts(goTo(3), goTo(2), goTo(3), goTo(1)), true)
}

func TestRightOfWaysThroughDocks(t *testing.T) {
	f := parsed(t, between)
	// His own he may come through.
	wantRight(t, f, 0, 0, acts(goTo(1), goTo(2), goTo(1)), true)
	wantRight(t, f, 0, 1, acts(goTo(0), goTo(1), goTo(2), goTo(1), goTo(0), goTo(1)), true)
	wantRight(t, f, 0, 0, acts(lift(1, 0), goTo(1), goTo(2), drop(1, 2), goTo(1)), true)
	// Another one's he may not, nor end there.
	wantRight(t, f, 1, 0, acts(goTo(1), goTo(2), goTo(5), goTo(4)), false)
	wantRight(t, f, 0, 0, acts(goTo(1), goTo(4), goTo(1)), false)
	wantRight(t, f, 0, 3, acts(goTo(4), goTo(1)), false)
	wantRight(t, f, 0, 3, acts(goTo(4)), false)
}

func TestRightOfWrongSteps(t *testing.T) {
	f := parsed(t, whole)
	for _, cell := range append(sample.Outside(), 1, 3, 5, 7, 8, 11, 12, 15) {
		wantRight(t, f, 0, 0, acts(goTo(1), goTo(cell), goTo(1), goTo(0)), false)
		wantRight(t, f, 0, 0, acts(goTo(cell)), false)
	}
	wantRight(t, f, 0, 0, acts(goTo(1), goTo(2), goTo(1), goTo(0)), true)
	wantRight(t, f, 0, 0, acts(goTo(1), goTo(6), goTo(1), goTo(0)), true)
	// The end of a row is not near to the beginning of the next one.
	g := parsed(t, "0ab\ncde\n")
	wantRight(t, g, 0, 2, acts(goTo(3), goTo(0)), false)
	wantRight(t, g, 0, 3, acts(goTo(2), goTo(1), goTo(0)), false)
}

func TestRightOfKindsAndPods(t *testing.T) {
	f := parsed(t, line)
	for kind := range 256 {
		a := api.Act{Kind: uint8(kind), Cell: 2}
		wantRight(t, f, 0, 1, acts(a, goTo(1), goTo(0)), kind == int(api.ActGo))
		a.Cell = 1
		wantRight(t, f, 0, 1, acts(a, goTo(0)), kind == int(api.ActDrop))
	}
	for pod := -3; pod < 70; pod++ {
		may := pod >= 0 && pod < 64
		wantRight(t, f, 0, 1, acts(drop(pod, 1), goTo(0)), may)
		wantRight(t, f, 0, 1, acts(lift(pod, 1), drop(pod, 1), goTo(0)), may)
		wantRight(t, f, 0, 1, acts(drop(7, 1), lift(pod, 1), drop(pod, 1), goTo(0)), may)
		wantRight(t, f, 0, 1, acts(api.Act{Kind: api.ActGo, Cell: 0, Pod: pod}), pod == 0)
	}
	for _, pod := range sample.Outside() {
		wantRight(t, f, 0, 1, acts(drop(pod, 1), goTo(0)), false)
		wantRight(t, f, 0, 1, acts(lift(pod, 1), drop(pod, 1), goTo(0)), false)
		wantRight(t, f, 0, 1, acts(api.Act{Kind: api.ActGo, Cell: 0, Pod: pod}), false)
	}
}

func TestRightOfWhereItLiftsAndDrops(t *testing.T) {
	f := parsed(t, line)
	for _, cell := range append(sample.Outside(), 0, 1, 2, 3, 4, 5) {
		wantRight(t, f, 0, 0, acts(goTo(1), goTo(2), lift(3, cell), drop(3, 2), goTo(1), goTo(0)), cell == 2)
		wantRight(t, f, 0, 0, acts(goTo(1), goTo(2), lift(3, 2), drop(3, cell), goTo(1), goTo(0)), cell == 2)
		wantRight(t, f, 0, 2, acts(drop(3, cell), goTo(1), goTo(0)), cell == 2)
	}
	// In the dock there is nothing to lift or to drop.
	wantRight(t, f, 0, 0, acts(lift(3, 0), goTo(1), drop(3, 1), goTo(0)), false)
	wantRight(t, f, 0, 1, acts(lift(3, 1), goTo(0), drop(3, 0)), false)
	wantRight(t, f, 0, 0, acts(drop(3, 0)), false)
}

func TestRightOfTurns(t *testing.T) {
	f := parsed(t, line)
	for _, x := range []struct {
		right bool
		l     []api.Act
	}{
		{true, acts(drop(1, 1))},
		{true, acts(lift(1, 1), drop(1, 1))},
		{true, acts(lift(1, 1), drop(1, 1), lift(1, 1), drop(1, 1))},
		{true, acts(lift(1, 1), drop(1, 1), lift(2, 1), drop(2, 1))},
		{true, acts(drop(1, 1), lift(1, 1), drop(1, 1))},
		{true, acts(drop(1, 1), lift(2, 1), drop(2, 1))},
		{true, acts(drop(0, 1), lift(0, 1), drop(0, 1))},
		{false, acts(lift(1, 1))},
		{false, acts(lift(1, 1), lift(1, 1))},
		{false, acts(lift(1, 1), drop(2, 1))},
		{false, acts(lift(0, 1), drop(1, 1))},
		{false, acts(lift(1, 1), drop(0, 1))},
		{false, acts(drop(1, 1), drop(1, 1))},
		{false, acts(drop(1, 1), drop(2, 1))},
		{false, acts(drop(1, 1), lift(1, 1))},
		{false, acts(lift(1, 1), lift(1, 1), drop(1, 1))},
		{false, acts(lift(1, 1), lift(2, 1), drop(2, 1), drop(1, 1))},
		{false, acts(lift(1, 1), drop(1, 1), drop(1, 1))},
		{false, acts(lift(1, 1), drop(1, 1), drop(2, 1))},
		{false, acts(lift(1, 1), drop(1, 1), lift(1, 1))},
		{false, acts(drop(1, 1), lift(1, 1), drop(2, 1))},
	} {
		wantRight(t, f, 0, 1, append(x.l, goTo(0)), x.right)
		// What is gone between them has no part in their turns.
		var far []api.Act
		for _, a := range x.l {
			far = append(far, a, goTo(2), goTo(1))
		}
		wantRight(t, f, 0, 1, append(far, goTo(0)), x.right)
	}
}

func TestRightOfManyActs(t *testing.T) {
	f := parsed(t, line)
	l := slices.Repeat(acts(goTo(1), goTo(0)), api.MaxActs/2)
	wantRight(t, f, 0, 0, l, true)
	wantRight(t, f, 0, 1, l[1:], true)
	wantRight(t, f, 0, 0, l[:api.MaxActs-2], true)
	wantRight(t, f, 0, 0, l[:api.MaxActs-1], false) // not home
	wantRight(t, f, 0, 1, append(acts(goTo(0)), l...), false)
	wantRight(t, f, 0, 0, append(l, goTo(1), goTo(0)), false)
	full := slices.Concat(acts(drop(1, 1)), slices.Repeat(acts(lift(1, 1), drop(1, 1)), api.MaxActs/2-1), acts(goTo(0)))
	wantRight(t, f, 0, 1, full, true)
	wantRight(t, f, 0, 1, full[1:], true)
	wantRight(t, f, 0, 2, append(acts(goTo(1)), full...), false)
}

// TestRightOfAllShortLists tries all lists of a few acts.
func TestRightOfAllShortLists(t *testing.T) {
	one := acts(goTo(0), goTo(1), goTo(2), lift(0, 1), lift(1, 1), drop(0, 1), drop(1, 1), lift(0, 0), api.Act{Cell: 1})
	two := acts(goTo(0), goTo(1), goTo(2), lift(3, 1), lift(3, 2), drop(3, 1), drop(3, 2), drop(4, 2), api.Act{Kind: api.ActGo, Cell: 1, Pod: 1})
	for _, x := range []struct {
		floor string
		acts  []api.Act
	}{{"0a1", one}, {"0ab", two}} {
		f := parsed(t, x.floor)
		lists, right := [][]api.Act{nil}, 0
		for many := 0; many <= 5; many++ {
			var longer [][]api.Act
			for _, l := range lists {
				for at := range 3 {
					want := slowRight(f, 0, at, l)
					wantRight(t, f, 0, at, l, want)
					if want {
						right++
					}
				}
				for _, a := range x.acts {
					longer = append(longer, append(slices.Clip(l), a))
				}
			}
			lists = longer
		}
		if right < 30 {
			t.Errorf("only %d were right", right)
		}
	}
}

// changed is acts with one thing changed.
func changed(l []api.Act, draw func(below int) int) []api.Act {
	l = slices.Clone(l)
	if len(l) == 0 {
		return l
	}
	i, j := draw(len(l)), draw(len(l))
	switch draw(7) {
	case 0:
		l = slices.Delete(l, i, i+1)
	case 1:
		l = slices.Insert(l, i, l[j])
	case 2:
		l[i], l[j] = l[j], l[i]
	case 3:
		l[i].Kind = uint8(draw(5))
	case 4:
		l[i].Pod = draw(66) - 1
	case 5:
		l[i].Cell += draw(3) - 1
	case 6:
		l = l[:i]
	}
	return l
}

func TestRightOnMixedFloors(t *testing.T) {
	right, none := 0, 0
	for seed := range 2000 {
		draw := sample.Numbers(seed)
		f := sample.Floor(2+draw(8), draw, floor.Right)
		robot, l := drawn(t, f, draw)
		at, _ := floor.Dock(f, robot)
		if other, more := drawn(t, f, draw); other == robot {
			l = append(l, more...)
		}
		for range 10 {
			from := draw(len(l) + 1)
			other := changed(l[from:], draw)
			is := where(at, l[:from])
			want := slowRight(f, robot, is, other)
			wantRight(t, f, robot, is, other, want)
			stranger := draw(10) - 1
			wantRight(t, f, stranger, is, other, slowRight(f, stranger, is, other))
			if want {
				right++
			} else {
				none++
			}
		}
	}
	if right < 1000 || none < 1000 {
		t.Errorf("only %d were right, and %d not", right, none)
	}
}

// P10.3

func TestCost(t *testing.T) {
	wantCost(t, nil, 0)
	wantCost(t, acts(), 0)
	wantCost(t, acts(goTo(1)), 1)
	wantCost(t, acts(lift(1, 1), drop(1, 1)), 0)
	wantCost(t, acts(goTo(1), goTo(2), lift(5, 2), goTo(3), drop(5, 3), goTo(2), goTo(1), goTo(0)), 6)
	// They need not be right.
	wantCost(t, acts(goTo(-1), goTo(7), goTo(7), goTo(math.MaxInt), api.Act{Kind: api.ActGo, Pod: -3}), 5)
	for kind := range 256 {
		want := 1
		if kind == 1 {
			want = 2
		}
		wantCost(t, acts(goTo(1), api.Act{Kind: uint8(kind), Cell: 2}), want)
	}
	wantCost(t, slices.Repeat(acts(goTo(1), lift(1, 1), drop(1, 1), api.Act{}), 5000), 5000)
}

func TestZones(t *testing.T) {
	f := parsed(t, whole)
	wantZones(t, f, nil, nil)
	wantZones(t, f, acts(), nil)
	wantZones(t, f, acts(goTo(1)), list(0))
	wantZones(t, f, acts(goTo(1), goTo(2), goTo(1)), list(0))
	wantZones(t, f, acts(goTo(14), goTo(13), goTo(1), goTo(8), goTo(2), goTo(1)), list(0, 3, 5))
	// Of docks, walls and what is no cell there is none.
	wantZones(t, f, acts(goTo(0), goTo(4), goTo(10), goTo(5), goTo(7), goTo(15)), nil)
	for _, cell := range sample.Outside() {
		wantZones(t, f, acts(goTo(cell)), nil)
		wantZones(t, f, acts(goTo(3), goTo(cell), goTo(2)), list(0, 1))
	}
	// Nor of what is lifted and dropped, and of kinds that are none.
	for kind := range 256 {
		var want []int
		if kind == 1 {
			want = list(1)
		}
		wantZones(t, f, acts(api.Act{Kind: uint8(kind), Cell: 3}), want)
		wantZones(t, f, acts(api.Act{Kind: uint8(kind), Cell: 3, Pod: 70}), want)
	}
	g := parsed(t, line)
	wantZones(t, g, acts(goTo(1), goTo(2), lift(5, 2), goTo(3), drop(5, 3), goTo(2), goTo(1), goTo(0)), list(0, 1))
	for _, f := range sample.Wrong() {
		wantZones(t, f, acts(goTo(0), goTo(1), goTo(2)), nil)
	}
}

func TestZonesOfAllZones(t *testing.T) {
	f := parsed(t, "0zyxwvutsrqpon\n#abcdefghijklm\n")
	var l []api.Act
	var want []int
	for cell := len(f.Cells) - 1; cell >= 0; cell-- {
		l = append(l, goTo(cell))
	}
	for zone := range api.MaxZones {
		want = append(want, zone)
	}
	wantZones(t, f, l, want)
	slices.Reverse(l)
	wantZones(t, f, l, want)
	wantZones(t, f, slices.Repeat(l, 500), want)
}

func TestCostAndZonesOfMixedActs(t *testing.T) {
	for seed := range 500 {
		draw := sample.Numbers(seed)
		f := sample.Floor(8, draw, floor.Right)
		var l []api.Act
		for range draw(20) {
			l = append(l, api.Act{Kind: uint8(draw(5)), Cell: draw(len(f.Cells)+4) - 2, Pod: draw(66) - 1})
		}
		wantZones(t, f, l, slowZones(f, l))
		wantCost(t, l, len(l)-len(slices.DeleteFunc(slices.Clone(l), func(a api.Act) bool { return a.Kind == 1 })))
	}
}

// P10.4

func TestWhatWasMade(t *testing.T) {
	for seed := range 300 {
		draw := sample.Numbers(seed)
		f := sample.Floor(10, draw, floor.Right)
		lanes, robot := floor.Lanes(f), draw(floor.Robots(f))
		dock, _ := floor.Dock(f, robot)
		pod, from, to := draw(64), lanes[draw(len(lanes))], lanes[draw(len(lanes))]
		l, e := Make(f, robot, pod, from, to, nil)
		if e != api.OK {
			t.Fatalf("%q: Make: error %d", f.Cells, e)
		}
		wantRight(t, f, robot, dock, l, true)
		wantCost(t, l, path.Dist(f, dock, nil)[from]+path.Dist(f, from, nil)[to]+path.Dist(f, to, nil)[dock])
		if got := turns(l); !slices.Equal(got, acts(lift(pod, from), drop(pod, to))) {
			t.Errorf("%q: %v is lifted and dropped", f.Cells, got)
		}
		wantZones(t, f, l, slowZones(f, l))
	}
}

func TestTheLongestTrip(t *testing.T) {
	f := parsed(t, sample.Snake())
	for _, cell := range list(1, 224, 239, 240) {
		l, e := Make(f, 0, 0, 240, cell, nil)
		if e != api.OK || len(l) != Cost(l)+2 || len(l) > api.MaxActs {
			t.Errorf("to %d: %d acts, error %d", cell, len(l), e)
		}
		wantRight(t, f, 0, 0, l, true)
		wantZones(t, f, l, list('s'-'a'))
	}
}

// P10.5

func TestWhatIsLeft(t *testing.T) {
	for seed := range 200 {
		draw := sample.Numbers(seed)
		f := sample.Floor(8, draw, floor.Right)
		robot, l := drawn(t, f, draw)
		for range 4 {
			if other, more := drawn(t, f, draw); other == robot {
				l = append(l, more...)
			}
		}
		at, _ := floor.Dock(f, robot)
		for i := range len(l) + 1 {
			wantRight(t, f, robot, where(at, l[:i]), l[i:], true)
		}
	}
}

// Rules 3 to 6

func TestArgumentsStayAsTheyAre(t *testing.T) {
	f := parsed(t, whole)
	// Behind their lengths stands what would be wrong.
	room := list(7, 2, 2, 300, 1, 0)
	l := acts(goTo(1), goTo(2), lift(5, 2), drop(5, 2), goTo(1), goTo(0), drop(9, 9), api.Act{Kind: 9}, goTo(-1))
	blocked, right := room[:4], l[:6]
	roomWas, was := slices.Clone(room), slices.Clone(l)
	want, e := Make(f, 0, 5, 1, 3, slices.Clip(slices.Clone(blocked)))
	for range 2 {
		got, other := Make(f, 0, 5, 1, 3, blocked)
		if other != e || !slices.Equal(got, want) {
			t.Errorf("Make: %v, error %d, want %v, error %d", got, other, want, e)
		}
		wantRight(t, f, 0, 0, right, true)
		wantCost(t, right, 4)
		wantZones(t, f, right, list(0))
		if !slices.Equal(room, roomWas) || !slices.Equal(l, was) {
			t.Fatalf("an argument was changed: %v, %v", room, l)
		}
		room[4], room[5] = 6, 3
		roomWas = slices.Clone(room)
	}
}

func TestNilAndEmptyAreTheSame(t *testing.T) {
	f := parsed(t, whole)
	want, _ := Make(f, 0, 5, 1, 3, nil)
	wantTrip(t, f, 0, 5, 1, 3, list(), want)
	wantTrip(t, f, 0, 5, 1, 3, make([]int, 0, 4), want)
}

func TestAnswersAreTheCallers(t *testing.T) {
	f := parsed(t, whole)
	l, _ := Make(f, 0, 5, 1, 14, nil)
	zones := Zones(f, l)
	was, zonesWas := slices.Clone(l), slices.Clone(zones)
	for i := range l[:cap(l)] {
		l[:cap(l)][i] = api.Act{Kind: 7, Cell: -1, Pod: -1}
	}
	for i := range zones[:cap(zones)] {
		zones[:cap(zones)][i] = -1
	}
	wantTrip(t, f, 0, 5, 1, 14, nil, was)
	wantZones(t, f, was, zonesWas)
	wantRight(t, f, 0, 0, was, true)
}
