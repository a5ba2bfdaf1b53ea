package traffic

import (
	"slices"
	"strings"
	"testing"

	"carfax/api"
	"carfax/banker"
	"carfax/floor"
	"carfax/sample"
	"carfax/trip"
)

// The tests hold the package against a slow one, that keeps each robot's whole trip, and works out from how far it is where it is and what it holds.

const (
	line  = "0aab1\n"
	whole = "0aab1\n#c#d#\n2eeff\n"
	cross = "#0#1#\nabcde\n#f#g#\nhijkl\n#2#3#\n"
	// Between the lanes 0 and 2 is a dock.
	between = "a0b\nc1d\nefg\n"
)

var goTo, lift, drop = sample.Go, sample.Lift, sample.Drop

func acts(l ...api.Act) []api.Act { return l }

func list(numbers ...int) []int { return numbers }

// going is acts that go to cells.
func going(cells ...int) []api.Act {
	var l []api.Act
	for _, cell := range cells {
		l = append(l, goTo(cell))
	}
	return l
}

func parsed(t *testing.T, s string) api.Floor {
	t.Helper()
	f, row, e := floor.Parse(s)
	if e != api.OK {
		t.Fatalf("Parse(%q): row %d, error %d", s, row, e)
	}
	return f
}

// slow is robots, and how far each of them is.
type slow struct {
	f      api.Floor
	robots []slowRobot
}

type slowRobot struct {
	trip []api.Act
	done int
	let  bool
}

func slowOf(f api.Floor) *slow {
	s := &slow{f: f}
	for robot := range 8 {
		if strings.IndexByte(f.Cells, '0'+byte(robot)) >= 0 {
			s.robots = append(s.robots, slowRobot{})
		}
	}
	return s
}

func (s *slow) is(robot int) bool { return robot >= 0 && robot < len(s.robots) }

func (s *slow) dock(robot int) int { return strings.IndexByte(s.f.Cells, '0'+byte(robot)) }

func (s *slow) cell(robot int) int {
	at := s.dock(robot)
	for _, a := range s.robots[robot].trip[:s.robots[robot].done] {
		if a.Kind == api.ActGo {
			at = a.Cell
		}
	}
	return at
}

func (s *slow) left(robot int) []api.Act {
	if !s.is(robot) {
		return nil
	}
	return s.robots[robot].trip[s.robots[robot].done:]
}

func (s *slow) now(robot int) (api.Act, bool) {
	if !s.is(robot) || !s.robots[robot].let {
		return api.Act{}, false
	}
	return s.left(robot)[0], true
}

// cells is where a robot is, and, while it goes, where it goes to.
func (s *slow) cells(robot int) []int {
	cells := list(s.cell(robot))
	if a, let := s.now(robot); let && a.Kind == api.ActGo {
		cells = append(cells, a.Cell)
	}
	return cells
}

// zonesOf asks of each zone whether one of the cells lies in it.
func (s *slow) zonesOf(cells []int) []int {
	var zones []int
	for zone := range 26 {
		if slices.ContainsFunc(cells, func(cell int) bool { return s.f.Cells[cell] == 'a'+byte(zone) }) {
			zones = append(zones, zone)
		}
	}
	return zones
}

func (s *slow) claims() []api.Claim {
	var l []api.Claim
	for robot := range s.robots {
		var goals []int
		for _, a := range s.left(robot) {
			if a.Kind == api.ActGo {
				goals = append(goals, a.Cell)
			}
		}
		l = append(l, api.Claim{Hold: s.zonesOf(s.cells(robot)), Need: s.zonesOf(goals)})
	}
	return l
}

func (s *slow) start(robot int, l []api.Act) api.Errno {
	switch {
	case !s.is(robot) || !trip.Right(s.f, robot, s.dock(robot), l):
		return api.ErrArg
	case len(s.left(robot)) > 0:
		return api.ErrThere
	}
	s.robots[robot] = slowRobot{trip: slices.Clone(l)}
	return api.OK
}

func (s *slow) grant(robot int) (api.Act, api.Errno) {
	switch {
	case !s.is(robot):
		return api.Act{}, api.ErrArg
	case len(s.left(robot)) == 0:
		return api.Act{}, api.ErrNone
	case s.robots[robot].let:
		return api.Act{}, api.ErrBusy
	}
	a := s.left(robot)[0]
	if a.Kind == api.ActGo {
		for _, zone := range s.zonesOf(list(a.Cell)) {
			if !slices.Contains(s.zonesOf(s.cells(robot)), zone) && !banker.May(s.claims(), robot, zone) {
				return api.Act{}, api.ErrWait
			}
		}
	}
	s.robots[robot].let = true
	return a, api.OK
}

func (s *slow) tellDone(robot int) api.Errno {
	switch {
	case !s.is(robot):
		return api.ErrArg
	case !s.robots[robot].let:
		return api.ErrNone
	}
	s.robots[robot].done++
	s.robots[robot].let = false
	return api.OK
}

// both is a state and the slow one, that are told the same.
type both struct {
	t *testing.T
	s *State
	m *slow
}

func begun(t *testing.T, f api.Floor) both {
	t.Helper()
	s, e := New(f)
	if s == nil || e != api.OK {
		t.Fatalf("%q: New: error %d", f.Cells, e)
	}
	return both{t, s, slowOf(f)}
}

func (b both) start(robot int, l []api.Act, want api.Errno) {
	b.t.Helper()
	if e := b.s.Start(robot, l); e != want {
		b.t.Errorf("%q: Start of robot %d, %v: %d, want %d", b.m.f.Cells, robot, l, e, want)
	}
	if e := b.m.start(robot, l); e != want {
		b.t.Fatalf("%q: start of robot %d, %v: %d, want %d", b.m.f.Cells, robot, l, e, want)
	}
	b.like()
}

// grant is the act that both let a robot do.
func (b both) grant(robot int) (api.Act, api.Errno) {
	b.t.Helper()
	a, e := b.s.Grant(robot)
	if want, wantE := b.m.grant(robot); a != want || e != wantE {
		b.t.Errorf("%q: Grant of robot %d: %v, error %d, want %v, error %d", b.m.f.Cells, robot, a, e, want, wantE)
	}
	return a, e
}

func (b both) done(robot int) api.Errno {
	b.t.Helper()
	e := b.s.Done(robot)
	if want := b.m.tellDone(robot); e != want {
		b.t.Errorf("%q: Done of robot %d: %d, want %d", b.m.f.Cells, robot, e, want)
	}
	return e
}

func (b both) wantGrant(robot int, want api.Act) {
	b.t.Helper()
	if a, e := b.grant(robot); a != want || e != api.OK {
		b.t.Errorf("Grant of robot %d: %v, error %d, want %v", robot, a, e, want)
	}
	b.like()
}

func (b both) wantRefused(robot int, want api.Errno) {
	b.t.Helper()
	if a, e := b.grant(robot); a != (api.Act{}) || e != want {
		b.t.Errorf("Grant of robot %d: %v, error %d, want error %d", robot, a, e, want)
	}
	b.like()
}

func (b both) wantDone(robot int, want api.Errno) {
	b.t.Helper()
	if e := b.done(robot); e != want {
		b.t.Errorf("Done of robot %d: %d, want %d", robot, e, want)
	}
	b.like()
}

// does lets a robot do acts, one behind the other.
func (b both) does(robot int, l ...api.Act) {
	b.t.Helper()
	for _, a := range l {
		b.wantGrant(robot, a)
		b.wantDone(robot, api.OK)
	}
}

func wantCell(t *testing.T, s *State, robot, cell int, is bool) {
	t.Helper()
	if got, ok := s.Cell(robot); got != cell || ok != is {
		t.Errorf("Cell(%d): %d, %v, want %d, %v", robot, got, ok, cell, is)
	}
}

func wantNow(t *testing.T, s *State, robot int, act api.Act, is bool) {
	t.Helper()
	if got, ok := s.Now(robot); got != act || ok != is {
		t.Errorf("Now(%d): %v, %v, want %v, %v", robot, got, ok, act, is)
	}
}

func wantLeft(t *testing.T, s *State, robot int, want []api.Act) {
	t.Helper()
	if got := s.Left(robot); !slices.Equal(got, want) {
		t.Errorf("Left(%d): %v, want %v", robot, got, want)
	}
}

func wantClaims(t *testing.T, s *State, want []api.Claim) {
	t.Helper()
	if got := s.Claims(); !slices.EqualFunc(got, want, sameClaim) {
		t.Errorf("Claims: %v, want %v", got, want)
	}
}

func sameClaim(a, b api.Claim) bool {
	return slices.Equal(a.Hold, b.Hold) && slices.Equal(a.Need, b.Need)
}

// like asks all that can be asked, and what follows from the promises.
func (b both) like() {
	b.t.Helper()
	for robot := -1; robot <= len(b.m.robots); robot++ {
		cell := 0
		if b.m.is(robot) {
			cell = b.m.cell(robot)
		}
		wantCell(b.t, b.s, robot, cell, b.m.is(robot))
		act, let := b.m.now(robot)
		wantNow(b.t, b.s, robot, act, let)
		wantLeft(b.t, b.s, robot, b.m.left(robot))
	}
	wantClaims(b.t, b.s, b.m.claims())
	b.wantSafe()
	b.wantApart()
	if b.t.Failed() {
		b.t.Fatalf("%q: %v", b.m.f.Cells, b.m.robots)
	}
}

// wantSafe asks P11.4.
func (b both) wantSafe() {
	b.t.Helper()
	claims := b.s.Claims()
	if !banker.Safe(claims) {
		b.t.Errorf("not safe: %v", claims)
	}
	for robot, c := range claims {
		if want := b.m.zonesOf(where(b.s, robot)); !slices.Equal(c.Hold, want) {
			b.t.Errorf("robot %d holds %v, want %v", robot, c.Hold, want)
		}
	}
}

// where is the cells in which a robot is by a state's own words.
func where(s *State, robot int) []int {
	cell, _ := s.Cell(robot)
	cells := list(cell)
	if a, let := s.Now(robot); let && a.Kind == api.ActGo {
		cells = append(cells, a.Cell)
	}
	return cells
}

// wantApart asks P11.5.
func (b both) wantApart() {
	b.t.Helper()
	var zones, cells []int
	for robot, c := range b.s.Claims() {
		zones = append(zones, c.Hold...)
		cells = append(cells, where(b.s, robot)...)
	}
	for _, l := range [][]int{zones, cells} {
		slices.Sort(l)
		if len(slices.Compact(slices.Clone(l))) != len(l) {
			b.t.Errorf("two are in one: %v", l)
		}
	}
}

// P11.1

func TestNewOfWrongFloors(t *testing.T) {
	for _, f := range sample.Wrong() {
		if s, e := New(f); s != nil || e != api.ErrFloor {
			t.Errorf("%v: %v, error %d", f, s, e)
		}
	}
}

func TestNewRobotsAreInTheirDocks(t *testing.T) {
	texts := []string{line, whole, cross, between, sample.Full(), sample.Snake(), "0a", "a\n0", "7654321\nabcdefg\n#####0#"}
	for _, text := range texts {
		b := begun(t, parsed(t, text))
		b.like()
		for robot := range b.m.robots {
			b.wantRefused(robot, api.ErrNone)
			b.wantDone(robot, api.ErrNone)
		}
		wantClaims(t, b.s, make([]api.Claim, len(b.m.robots)))
	}
	for seed := range 100 {
		begun(t, sample.Floor(16, sample.Numbers(seed), floor.Right)).like()
	}
}

func TestStart(t *testing.T) {
	b := begun(t, parsed(t, line))
	l := acts(goTo(1), goTo(2), lift(5, 2), goTo(3), drop(5, 3), goTo(2), goTo(1), goTo(0))
	b.start(0, l, api.OK)
	wantLeft(t, b.s, 0, l)
	wantCell(t, b.s, 0, 0, true)
	wantNow(t, b.s, 0, api.Act{}, false)
	wantClaims(t, b.s, []api.Claim{{Need: list(0, 1)}, {}})
	b.start(1, acts(goTo(3), lift(6, 3), drop(6, 3), goTo(4)), api.OK)
	wantClaims(t, b.s, []api.Claim{{Need: list(0, 1)}, {Need: list(1)}})
}

func TestStartOfRobotsThatAreNone(t *testing.T) {
	b := begun(t, parsed(t, line))
	home := acts(goTo(1), goTo(0))
	for _, robot := range append(sample.Outside(), 2, 3, 7, 8) {
		b.start(robot, home, api.ErrArg)
		b.start(robot, nil, api.ErrArg)
	}
}

func TestStartOfWrongTrips(t *testing.T) {
	b := begun(t, parsed(t, whole))
	wrong := [][]api.Act{
		going(1),          // not home
		going(0),          // it is there
		going(2, 1, 0),    // too far
		going(1, 3, 1, 0), // too far
		going(1, 0, 10),   // another dock
		going(3, 4),       // another robot's trip
		acts(goTo(1), lift(1, 1), goTo(0)),
		acts(goTo(1), lift(1, 2), drop(1, 1), goTo(0)),
		acts(goTo(1), lift(1, 1), drop(2, 1), goTo(0)),
		acts(goTo(1), lift(64, 1), drop(64, 1), goTo(0)),
		acts(lift(1, 0), drop(1, 0)),
		acts(api.Act{}),
		acts(api.Act{Kind: 4}, goTo(1), goTo(0)),
		acts(goTo(1), api.Act{Kind: api.ActGo, Cell: 0, Pod: 1}),
		slices.Repeat(going(1, 0), 513),
	}
	for _, cell := range sample.Outside() {
		wrong = append(wrong, going(cell), going(1, cell, 1, 0))
	}
	wantWrong := func() {
		t.Helper()
		for _, l := range wrong {
			b.start(0, l, api.ErrArg)
		}
	}
	wantWrong()
	b.start(0, slices.Repeat(going(1, 0), 512), api.OK)
	// That it has something to do comes behind.
	wantWrong()
}

func TestStartOfNothing(t *testing.T) {
	b := begun(t, parsed(t, line))
	for _, l := range [][]api.Act{nil, {}, make([]api.Act, 0, 3)} {
		b.start(0, l, api.OK)
		b.wantRefused(0, api.ErrNone)
		b.wantDone(0, api.ErrNone)
	}
	b.start(0, going(1, 0), api.OK)
	b.start(0, nil, api.ErrThere)
}

func TestStartWhileSomethingIsLeft(t *testing.T) {
	b := begun(t, parsed(t, line))
	l := acts(goTo(1), lift(5, 1), drop(5, 1), goTo(0))
	for range 2 {
		b.start(0, l, api.OK)
		for _, a := range l {
			b.start(0, l, api.ErrThere)
			b.start(0, nil, api.ErrThere)
			b.start(0, l[1:], api.ErrArg)
			b.wantGrant(0, a)
			b.start(0, l, api.ErrThere)
			b.start(0, nil, api.ErrThere)
			b.start(0, going(2), api.ErrArg)
			b.start(1, nil, api.OK)
			b.wantDone(0, api.OK)
		}
	}
}

func TestATripOfWhatIsCarriedAlready(t *testing.T) {
	// Layer 10 takes it for right, from the dock, too.
	b := begun(t, parsed(t, line))
	l := acts(goTo(1), drop(5, 1), goTo(0))
	b.start(0, l, api.OK)
	b.does(0, l...)
}

// P11.2

func TestExample(t *testing.T) {
	b := begun(t, parsed(t, line))
	b.start(0, going(1, 2, 3, 2, 1, 0), api.OK)
	b.start(1, going(3, 2, 3, 4), api.OK)
	b.wantGrant(0, goTo(1))
	wantClaims(t, b.s, []api.Claim{{Hold: list(0), Need: list(0, 1)}, {Need: list(0, 1)}})
	b.wantRefused(1, api.ErrWait)
	b.wantDone(0, api.OK)
	b.wantRefused(1, api.ErrWait)
	b.does(0, goTo(2))
	b.wantRefused(1, api.ErrWait)
	b.wantGrant(0, goTo(3))
	wantClaims(t, b.s, []api.Claim{{Hold: list(0, 1), Need: list(0, 1)}, {Need: list(0, 1)}})
	b.wantRefused(1, api.ErrWait)
	b.wantDone(0, api.OK)
	wantClaims(t, b.s, []api.Claim{{Hold: list(1), Need: list(0)}, {Need: list(0, 1)}})
	b.does(0, goTo(2))
	// What robot 0 needs robot 1 doesn't hold now: the zone b is free, and no more on 0's way.
	b.wantGrant(1, goTo(3))
	b.wantDone(1, api.OK)
	b.wantRefused(1, api.ErrWait)
	b.does(0, goTo(1), goTo(0))
	b.does(1, goTo(2), goTo(3), goTo(4))
	wantClaims(t, b.s, []api.Claim{{}, {}})
}

func TestGrantAndDoneOfRobotsThatAreNone(t *testing.T) {
	b := begun(t, parsed(t, line))
	b.start(0, going(1, 0), api.OK)
	b.wantGrant(0, goTo(1))
	for _, robot := range append(sample.Outside(), 2, 3, 7, 8) {
		b.wantRefused(robot, api.ErrArg)
		b.wantDone(robot, api.ErrArg)
	}
}

func TestGrantOfWhatItDoes(t *testing.T) {
	b := begun(t, parsed(t, line))
	l := acts(goTo(1), lift(5, 1), goTo(2), drop(5, 2), goTo(1), goTo(0))
	b.start(0, l, api.OK)
	for i, a := range l {
		b.wantDone(0, api.ErrNone)
		b.wantGrant(0, a)
		for range 3 {
			b.wantRefused(0, api.ErrBusy)
		}
		wantLeft(t, b.s, 0, l[i:])
		b.wantDone(0, api.OK)
		wantLeft(t, b.s, 0, l[i+1:])
		b.wantDone(0, api.ErrNone)
	}
	b.wantRefused(0, api.ErrNone)
}

func TestItIsInACellOnlyWhenItCame(t *testing.T) {
	b := begun(t, parsed(t, whole))
	b.start(0, going(1, 6, 1, 0), api.OK)
	b.does(0, goTo(1))
	b.wantGrant(0, goTo(6))
	wantCell(t, b.s, 0, 1, true)
	wantNow(t, b.s, 0, goTo(6), true)
	wantClaims(t, b.s, []api.Claim{{Hold: list(0, 2), Need: list(0, 2)}, {}, {}})
	b.wantDone(0, api.OK)
	wantCell(t, b.s, 0, 6, true)
	wantNow(t, b.s, 0, api.Act{}, false)
	wantClaims(t, b.s, []api.Claim{{Hold: list(2), Need: list(0)}, {}, {}})
}

func TestAZoneIsHeldUntilItIsLeft(t *testing.T) {
	b := begun(t, parsed(t, "0ab1\n"))
	b.start(0, going(1, 0), api.OK)
	b.start(1, going(2, 1, 2, 3), api.OK)
	b.does(0, goTo(1))
	b.wantGrant(0, goTo(0))
	b.wantGrant(1, goTo(2))
	b.wantDone(1, api.OK)
	// On its way into the dock it is still in a.
	wantClaims(t, b.s, []api.Claim{{Hold: list(0)}, {Hold: list(1), Need: list(0, 1)}})
	b.wantRefused(1, api.ErrWait)
	b.wantDone(0, api.OK)
	wantClaims(t, b.s, []api.Claim{{}, {Hold: list(1), Need: list(0, 1)}})
	b.does(1, goTo(1), goTo(2), goTo(3))
}

func TestWhoHoldsAZoneGoesOnInIt(t *testing.T) {
	b := begun(t, parsed(t, "0aaab1\n"))
	b.start(0, going(1, 2, 3, 2, 1, 0), api.OK)
	b.start(1, going(4, 3, 4, 5), api.OK)
	b.does(1, goTo(4))
	b.wantGrant(1, goTo(3))
	// The zone a is held from the beginning of the step on, as it is up to the end of another one.
	b.wantRefused(0, api.ErrWait)
	b.wantDone(1, api.OK)
	b.wantRefused(0, api.ErrWait)
	b.wantGrant(1, goTo(4))
	b.wantRefused(0, api.ErrWait)
	b.wantDone(1, api.OK)
	b.wantGrant(0, goTo(1))
	wantClaims(t, b.s, []api.Claim{{Hold: list(0), Need: list(0)}, {Hold: list(1)}})
	b.wantDone(0, api.OK)
	b.does(0, goTo(2), goTo(3), goTo(2))
	wantClaims(t, b.s, []api.Claim{{Hold: list(0), Need: list(0)}, {Hold: list(1)}})
}

func TestAZoneThatIsFreeAndNotSafeIsWaitedFor(t *testing.T) {
	// Each in its zone, two that want to go past one another would stand for ever.
	b := begun(t, parsed(t, "0ab1\n"))
	b.start(0, going(1, 2, 1, 0), api.OK)
	b.start(1, going(2, 1, 2, 3), api.OK)
	b.wantGrant(1, goTo(2))
	b.wantRefused(0, api.ErrWait)
	b.wantDone(1, api.OK)
	b.wantRefused(0, api.ErrWait)
	b.does(1, goTo(1))
	b.wantRefused(0, api.ErrWait)
	b.does(1, goTo(2))
	// Now robot 1 has but the step home left, and needs nothing.
	b.wantGrant(0, goTo(1))
	b.wantDone(0, api.OK)
	b.wantRefused(0, api.ErrWait)
	b.does(1, goTo(3))
	b.does(0, goTo(2), goTo(1), goTo(0))
}

func TestAZoneIsOfOneOfThoseThatNeedIt(t *testing.T) {
	// Four docks round one lane.
	b := begun(t, parsed(t, "#0#\n3a1\n#2#\n"))
	for robot := range 4 {
		b.start(robot, acts(goTo(4), lift(robot, 4), drop(robot, 4), goTo(b.m.dock(robot))), api.OK)
	}
	for robot := range 4 {
		for _, a := range b.m.left(robot) {
			b.wantGrant(robot, a)
			for other := robot + 1; other < 4; other++ {
				b.wantRefused(other, api.ErrWait)
			}
			b.wantDone(robot, api.OK)
		}
	}
}

func TestThroughItsOwnDockItLetsGoOfAll(t *testing.T) {
	b := begun(t, parsed(t, between))
	b.start(0, going(0, 1, 2, 5, 2, 1), api.OK)
	b.start(1, going(3, 4), api.OK)
	b.does(0, goTo(0), goTo(1))
	wantClaims(t, b.s, []api.Claim{{Need: list(1, 3)}, {Need: list(2)}})
	wantCell(t, b.s, 0, 1, true)
	b.start(0, nil, api.ErrThere)
	b.does(1, goTo(3))
	b.does(0, goTo(2), goTo(5), goTo(2), goTo(1))
	b.does(1, goTo(4))
}

func TestLiftsAndDropsWaitForNobody(t *testing.T) {
	b := begun(t, parsed(t, line))
	b.start(0, acts(goTo(1), goTo(2), lift(5, 2), drop(5, 2), lift(6, 2), drop(6, 2), goTo(1), goTo(0)), api.OK)
	b.start(1, going(3, 2, 3, 4), api.OK)
	b.does(0, goTo(1))
	b.wantGrant(1, goTo(3))
	b.does(0, goTo(2), lift(5, 2), drop(5, 2), lift(6, 2))
	b.wantDone(1, api.OK)
	b.wantRefused(1, api.ErrWait)
	b.does(0, drop(6, 2))
	wantCell(t, b.s, 0, 2, true)
	wantClaims(t, b.s, []api.Claim{{Hold: list(0), Need: list(0)}, {Hold: list(1), Need: list(0, 1)}})
	b.wantRefused(1, api.ErrWait)
}

func TestTheLongestTrip(t *testing.T) {
	b := begun(t, parsed(t, "0ab1\n"))
	l := slices.Concat(going(1), slices.Repeat(acts(lift(63, 1), drop(63, 1)), 255), slices.Repeat(going(2, 1), 256), going(0))
	if len(l) != api.MaxActs {
		t.Fatalf("%d acts", len(l))
	}
	b.start(0, l, api.OK)
	b.does(0, l...)
	b.start(0, append(going(1, 0), l...), api.ErrArg)
}

// P11.3

func TestWhatIsAskedOfNoRobot(t *testing.T) {
	b := begun(t, parsed(t, line))
	b.start(0, going(1, 0), api.OK)
	b.start(1, going(3, 4), api.OK)
	b.wantGrant(0, goTo(1))
	b.wantGrant(1, goTo(3))
	for _, robot := range append(sample.Outside(), 2, 3, 7, 8) {
		wantCell(t, b.s, robot, 0, false)
		wantNow(t, b.s, robot, api.Act{}, false)
		wantLeft(t, b.s, robot, nil)
	}
}

func TestNilAndZeroStates(t *testing.T) {
	for _, robot := range append(sample.Outside(), 0, 1, 7, 8) {
		for _, x := range []struct {
			s    *State
			want api.Errno
		}{{nil, api.ErrNone}, {&State{}, api.ErrArg}} {
			for _, l := range [][]api.Act{nil, going(1, 0)} {
				if e := x.s.Start(robot, l); e != x.want {
					t.Errorf("Start of robot %d: %d, want %d", robot, e, x.want)
				}
			}
			if a, e := x.s.Grant(robot); a != (api.Act{}) || e != x.want {
				t.Errorf("Grant of robot %d: %v, error %d, want %d", robot, a, e, x.want)
			}
			if e := x.s.Done(robot); e != x.want {
				t.Errorf("Done of robot %d: %d, want %d", robot, e, x.want)
			}
			wantCell(t, x.s, robot, 0, false)
			wantNow(t, x.s, robot, api.Act{}, false)
			wantLeft(t, x.s, robot, nil)
			wantClaims(t, x.s, nil)
		}
	}
}

func TestClaimsAreOfTheZonesRising(t *testing.T) {
	b := begun(t, parsed(t, "0zyb1\n#xac#\n"))
	b.start(0, going(1, 2, 7, 6, 1, 0), api.OK)
	b.start(1, going(3, 8, 3, 4), api.OK)
	wantClaims(t, b.s, []api.Claim{{Need: list(0, 23, 24, 25)}, {Need: list(1, 2)}})
	b.does(0, goTo(1))
	b.wantGrant(0, goTo(2))
	wantClaims(t, b.s, []api.Claim{{Hold: list(24, 25), Need: list(0, 23, 24, 25)}, {Need: list(1, 2)}})
	b.wantDone(0, api.OK)
	b.wantGrant(0, goTo(7))
	wantClaims(t, b.s, []api.Claim{{Hold: list(0, 24), Need: list(0, 23, 25)}, {Need: list(1, 2)}})
	b.does(1, goTo(3))
	b.wantGrant(1, goTo(8))
	wantClaims(t, b.s, []api.Claim{{Hold: list(0, 24), Need: list(0, 23, 25)}, {Hold: list(1, 2), Need: list(1, 2)}})
}

// P11.4 to P11.6

// call is a Grant, or a Done.
type call struct {
	done  bool
	robot int
}

// made is both behind trips that were started, and calls.
func made(t *testing.T, f api.Floor, trips [][]api.Act, calls []call) both {
	t.Helper()
	b := begun(t, f)
	for robot, l := range trips {
		if b.s.Start(robot, l) != api.OK || b.m.start(robot, l) != api.OK {
			t.Fatalf("%q: %v is not started", f.Cells, l)
		}
	}
	for _, c := range calls {
		b.make(c)
	}
	return b
}

func (b both) make(c call) api.Errno {
	b.t.Helper()
	if c.done {
		return b.done(c.robot)
	}
	_, e := b.grant(c.robot)
	return e
}

// far is how far all robots are.
func (b both) far() string {
	var far []byte
	for _, r := range b.m.robots {
		far = append(far, byte(r.done), 'g')
		if r.let {
			far = append(far, '!')
		}
	}
	return string(far)
}

// wantAllOrders makes all calls in all orders.
func wantAllOrders(t *testing.T, text string, trips ...[]api.Act) {
	t.Helper()
	f := parsed(t, text)
	seen, ends := map[string]bool{}, 0
	var try func(calls []call)
	try = func(calls []call) {
		b := made(t, f, trips, calls)
		b.like()
		if seen[b.far()] {
			return
		}
		seen[b.far()] = true
		left, let, can := 0, 0, 0
		for robot := range b.m.robots {
			left += len(b.m.left(robot))
			if _, is := b.m.now(robot); is {
				let++
			}
			for _, done := range []bool{false, true} {
				c := call{done, robot}
				if x := made(t, f, trips, calls); x.make(c) == api.OK {
					can++
					try(append(slices.Clip(calls), c))
				} else {
					x.like()
				}
			}
		}
		if left > 0 && let == 0 && can == 0 {
			t.Fatalf("%q: stuck behind %v", text, calls)
		}
		if left == 0 {
			ends++
		}
	}
	try(nil)
	if ends != 1 {
		t.Errorf("%q: %d ends", text, ends)
	}
}

func TestAllOrdersOfCalls(t *testing.T) {
	wantAllOrders(t, line, going(1, 2, 3, 2, 1, 0), going(3, 2, 3, 4))
	wantAllOrders(t, line, acts(goTo(1), lift(5, 1), goTo(2), goTo(3), drop(5, 3), goTo(2), goTo(1), goTo(0)), acts(goTo(3), goTo(2), lift(6, 2), goTo(1), drop(6, 1), goTo(2), goTo(3), goTo(4)))
	wantAllOrders(t, "0ab1\n", going(1, 2, 1, 0), going(2, 1, 2, 3))
	wantAllOrders(t, "0abc1\n", going(1, 2, 3, 2, 1, 0, 1, 0), going(3, 2, 3, 4))
	wantAllOrders(t, "0aa1\n", going(1, 0, 1, 0), going(2, 1, 2, 3))
	wantAllOrders(t, "#0#\n3a1\n#2#\n", going(4, 1), going(4, 5), going(4, 7))
	// Round a ring each one's zone is the next one's, and the last one's the first one's.
	wantAllOrders(t, "0ab1\n#dc#\n#2##\n", going(1, 2, 6, 5, 1, 0), going(2, 6, 5, 1, 2, 3), going(5, 1, 5, 9))
	wantAllOrders(t, between, going(0, 1, 2, 5, 2, 1), going(3, 0, 3, 6, 7, 6, 3, 4))
}

// trips is a trip of each robot, to and from lanes of a floor.
func trips(t *testing.T, f api.Floor, draw func(below int) int) [][]api.Act {
	t.Helper()
	lanes := floor.Lanes(f)
	var all [][]api.Act
	for robot := range floor.Robots(f) {
		l, e := trip.Make(f, robot, draw(api.MaxPods), lanes[draw(len(lanes))], lanes[draw(len(lanes))], nil)
		if e != api.OK {
			t.Fatalf("%q: Make: error %d", f.Cells, e)
		}
		all = append(all, l)
	}
	return all
}

func TestMixedCallsOnMixedFloors(t *testing.T) {
	many := map[api.Errno]int{}
	for seed := range 150 {
		draw := sample.Numbers(seed)
		f := sample.Floor(2+draw(6), draw, floor.Right)
		b := begun(t, f)
		for range 120 {
			robot := draw(len(b.m.robots)+2) - 1
			var e api.Errno
			switch draw(5) {
			case 0:
				l := slices.Clip(trips(t, f, draw)[draw(len(b.m.robots))])
				e = b.m.start(robot, l)
				if got := b.s.Start(robot, l); got != e {
					t.Errorf("Start of robot %d, %v: %d, want %d", robot, l, got, e)
				}
			case 1, 2:
				_, e = b.grant(robot)
			default:
				e = b.done(robot)
			}
			many[e]++
			b.like()
		}
	}
	for _, e := range []api.Errno{api.OK, api.ErrArg, api.ErrNone, api.ErrThere, api.ErrWait, api.ErrBusy} {
		if many[e] < 100 {
			t.Errorf("error %d came but %d times", e, many[e])
		}
	}
}

// wantHome lets each robot that can do its next act, again and again, and counts.
func wantHome(t *testing.T, b both, draw func(below int) int) {
	t.Helper()
	acts, grants := 0, 0
	for robot := range b.m.robots {
		acts += len(b.m.left(robot))
	}
	for round := 0; ; round++ {
		moved, left := 0, 0
		for robot := range b.m.robots {
			// Some do what they were let do later than others.
			if draw(3) > 0 && b.done(robot) == api.OK {
				moved++
			}
			if _, e := b.grant(robot); e == api.OK {
				grants++
				moved++
			}
			if _, let := b.m.now(robot); let {
				moved++
			}
			left += len(b.m.left(robot))
		}
		b.like()
		if left == 0 {
			break
		}
		if moved == 0 {
			t.Fatalf("%q: round %d: stuck: %v", b.m.f.Cells, round, b.m.robots)
		}
	}
	if grants != acts {
		t.Errorf("%q: %d Grants of %d acts", b.m.f.Cells, grants, acts)
	}
	for robot := range b.m.robots {
		wantCell(t, b.s, robot, b.m.dock(robot), true)
	}
	wantClaims(t, b.s, make([]api.Claim, len(b.m.robots)))
}

func TestAllComeHome(t *testing.T) {
	waits := 0
	for seed := range 150 {
		draw := sample.Numbers(seed)
		f := sample.Floor(2+draw(8), draw, floor.Right)
		b := made(t, f, trips(t, f, draw), nil)
		wantHome(t, b, draw)
		for robot, l := range trips(t, f, draw) {
			b.start(robot, l, api.OK)
			if _, e := b.grant(robot); e == api.ErrWait {
				waits++
			}
		}
		wantAllDone(t, b)
	}
	if waits < 50 {
		t.Errorf("but %d waited", waits)
	}
}

// wantAllDone lets one robot after the other do what it can at once.
func wantAllDone(t *testing.T, b both) {
	t.Helper()
	for left := true; left; {
		left = false
		moved := false
		for robot := range b.m.robots {
			for len(b.m.left(robot)) > 0 {
				_, e := b.grant(robot)
				if e == api.ErrWait || b.done(robot) != api.OK {
					left = true
					break
				}
				moved = true
				b.like()
			}
		}
		if left && !moved {
			t.Fatalf("%q: stuck: %v", b.m.f.Cells, b.m.robots)
		}
	}
}

func TestManyRobotsInOneZoneAndInMany(t *testing.T) {
	for _, text := range []string{cross, "01234567\nabcdefgh\n", "01234567\naaaaaaaa\n", "01234567\naabbccdd\neeeeffff\n", "01234567\nabcdefgh\nijklmnop\n"} {
		f := parsed(t, text)
		for seed := range 10 {
			draw := sample.Numbers(seed)
			wantHome(t, made(t, f, trips(t, f, draw), nil), draw)
		}
	}
}

func TestTheGreatestFloors(t *testing.T) {
	for _, text := range []string{sample.Full(), sample.Snake()} {
		f := parsed(t, text)
		b := made(t, f, trips(t, f, sample.Numbers(3)), nil)
		for robot := range b.m.robots {
			b.does(robot, b.m.left(robot)...)
		}
		b.like()
	}
}

// Rules 2 to 6

func TestArgumentsAreNeitherChangedNorKept(t *testing.T) {
	b := begun(t, parsed(t, line))
	// Behind its length stands what would be wrong.
	room := append(going(1, 2, 1, 0), goTo(9), api.Act{Kind: 9})
	was := slices.Clone(room)
	b.start(0, room[:4], api.OK)
	if !slices.Equal(room, was) {
		t.Errorf("an argument was changed: %v", room)
	}
	for i := range room {
		room[i] = api.Act{Kind: 7, Cell: -1, Pod: -1}
	}
	b.like()
	b.does(0, was[:4]...)
	if room[0] != (api.Act{Kind: 7, Cell: -1, Pod: -1}) {
		t.Errorf("an argument was changed: %v", room)
	}
}

// listsOf is all lists of claims.
func listsOf(claims []api.Claim) [][]int {
	var all [][]int
	for _, c := range claims {
		all = append(all, c.Hold, c.Need)
	}
	return all
}

// underWay is two robots that hold and need something.
func underWay(t *testing.T) both {
	t.Helper()
	b := begun(t, parsed(t, whole))
	b.start(0, going(1, 6, 11, 6, 1, 0), api.OK)
	b.start(1, going(3, 8, 3, 4), api.OK)
	b.does(0, goTo(1))
	b.wantGrant(0, goTo(6))
	b.wantGrant(1, goTo(3))
	return b
}

func TestAnswersAreTheCallers(t *testing.T) {
	b := underWay(t)
	left, claims := b.s.Left(0), b.s.Claims()
	spoilAll := func() {
		sample.Spoil(b.s.Left(0), api.Act{Kind: 9, Cell: -9, Pod: -9})
		for _, l := range listsOf(b.s.Claims()) {
			sample.Spoil(l, 99)
		}
		sample.Spoil(b.s.Claims(), api.Claim{Hold: list(9), Need: list(9)})
	}
	spoilAll()
	b.like()
	leftWas, claimsWas := b.m.left(0), b.m.claims()
	b.wantDone(0, api.OK)
	spoilAll()
	b.does(0, goTo(11), goTo(6))
	if !slices.Equal(left, leftWas) || !slices.EqualFunc(claims, claimsWas, sameClaim) {
		t.Errorf("behind other answers, and later calls: %v and %v, want %v and %v", left, claims, leftWas, claimsWas)
	}
}

func TestListsOfOneAnswerStandApart(t *testing.T) {
	b := underWay(t)
	want := listsOf(b.m.claims())
	for spoilt := range want {
		lists := listsOf(b.s.Claims())
		sample.Spoil(lists[spoilt], 99)
		for i, l := range lists {
			if i != spoilt && !slices.Equal(l, want[i]) {
				t.Errorf("list %d is %v behind a change of list %d, want %v", i, l, spoilt, want[i])
			}
		}
	}
}

func TestWhatOnlyAsksChangesNothing(t *testing.T) {
	b := begun(t, parsed(t, line))
	b.start(0, going(1, 2, 3, 2, 1, 0), api.OK)
	b.start(1, going(3, 2, 3, 4), api.OK)
	b.wantGrant(0, goTo(1))
	for range 3 {
		b.like()
	}
}

func TestStatesStandApart(t *testing.T) {
	f := parsed(t, line)
	one, other := begun(t, f), begun(t, f)
	one.start(0, going(1, 2, 3, 2, 1, 0), api.OK)
	one.wantGrant(0, goTo(1))
	other.like()
	other.start(1, going(3, 2, 3, 4), api.OK)
	other.wantGrant(1, goTo(3))
	one.like()
	other.wantDone(1, api.OK)
	other.wantGrant(1, goTo(2))
	one.wantDone(0, api.OK)
	other.like()
}

func TestTheSameCallsAnswerTheSame(t *testing.T) {
	f := parsed(t, cross)
	once := func() []api.Errno {
		draw := sample.Numbers(5)
		s, _ := New(f)
		var all []api.Errno
		for robot, l := range trips(t, f, draw) {
			all = append(all, s.Start(robot, l))
		}
		for range 300 {
			robot := draw(4)
			a, e := s.Grant(robot)
			all = append(all, e, api.Errno(a.Cell), s.Done(draw(4)))
		}
		return all
	}
	want := once()
	for range 5 {
		if !slices.Equal(once(), want) {
			t.Error("two states that were told the same differ")
		}
	}
}
