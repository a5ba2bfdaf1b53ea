package robot

import (
	"bytes"
	"math"
	"slices"
	"strconv"
	"strings"
	"testing"

	"carfax/api"
	"carfax/link"
	"carfax/net"
	"carfax/record"
	"carfax/sample"
)

// The tests hold robots against a slow one, that keeps all that was ever told it, and does all its acts anew, from its dock on, whenever it is asked.
type slow struct {
	dock, full int
	heard      []string
	acts       []api.Act
	// How many of the acts are done, how many of these were heard to be done, and whether the next one is begun.
	done, known int
	begun       bool
}

func told(n uint64, data string) []byte {
	b, _ := link.Lay(api.Packet{N: n, Data: []byte(data)})
	return b
}

func heard(n uint64) []byte {
	b, _ := link.Lay(api.Packet{Heard: true, N: n})
	return b
}

func actText(x api.Act) string {
	b, _ := record.LayAct(x)
	return string(b)
}

func (s *slow) hear(b []byte) []byte {
	p, e := link.Take(b)
	if e != api.OK || p.Heard || p.N == 0 || p.N > uint64(len(s.heard))+1 {
		return nil
	}
	if p.N == uint64(len(s.heard))+1 {
		s.heard = append(s.heard, string(p.Data))
		if x, e := record.TakeAct(p.Data); e == api.OK && s.done == len(s.acts) {
			s.acts = append(s.acts, x)
			s.known = s.done
		}
	}
	return heard(p.N)
}

func (s *slow) next() (api.Act, bool) {
	if s.done == len(s.acts) {
		return api.Act{}, false
	}
	return s.acts[s.done], true
}

// walk is where the acts that are done have brought it, and how far it can go.
func (s *slow) walk() (cell, charge int) {
	cell, charge = s.dock, s.full
	for _, x := range s.acts[:s.done] {
		if x.Kind != api.ActGo {
			continue
		}
		cell = x.Cell
		charge--
		if cell == s.dock {
			charge = s.full
		}
	}
	if s.begun {
		charge--
	}
	return cell, charge
}

func (s *slow) step() bool {
	x, is := s.next()
	if _, charge := s.walk(); !is || x.Kind == api.ActGo && !s.begun && charge == 0 {
		return false
	}
	if x.Kind == api.ActGo && !s.begun {
		s.begun = true
		return false
	}
	s.begun = false
	s.done++
	return true
}

func (s *slow) packet() ([]byte, bool) {
	if s.known == s.done {
		return nil, false
	}
	return told(uint64(s.done), ""), true
}

func (s *slow) hears(b []byte) bool {
	if s.known == s.done || !bytes.Equal(b, heard(uint64(s.done))) {
		return false
	}
	s.known = s.done
	return true
}

func (s *slow) cells() []int {
	cell, _ := s.walk()
	if x, _ := s.next(); s.begun && x.Cell != cell {
		return []int{cell, x.Cell}
	}
	return []int{cell}
}

// both is a robot and the slow one, that are told the same.
type both struct {
	t *testing.T
	r *Robot
	s *slow
}

func begun(t *testing.T, dock, charge int) *both {
	t.Helper()
	r, e := New(dock, charge)
	if e != api.OK || r == nil {
		t.Fatalf("New of %d, %d: error %d", dock, charge, e)
	}
	b := &both{t, r, &slow{dock: dock, full: charge}}
	b.like()
	return b
}

// like asks all that can be asked.
func (b *both) like() {
	b.t.Helper()
	wantNext, wantBusy := b.s.next()
	if x, is := b.r.Next(); x != wantNext || is != wantBusy {
		b.t.Errorf("Next is %v, %v, want %v, %v", x, is, wantNext, wantBusy)
	}
	wantPacket, wantTells := b.s.packet()
	if p, is := b.r.Packet(); !bytes.Equal(p, wantPacket) || is != wantTells {
		b.t.Errorf("Packet is %x, %v, want %x, %v", p, is, wantPacket, wantTells)
	}
	_, wantCharge := b.s.walk()
	wantState(b.t, b.r, b.s.cells(), wantCharge, uint64(b.s.done))
}

func wantState(t *testing.T, r *Robot, cells []int, charge int, done uint64) {
	t.Helper()
	if c, n, d := r.Cells(), r.Charge(), r.Done(); !slices.Equal(c, cells) || n != charge || d != done {
		t.Errorf("in %v, charge %d, %d done, want %v, charge %d, %d done", c, n, d, cells, charge, done)
	}
}

func (b *both) hear(p []byte) []byte {
	b.t.Helper()
	back, want := b.r.Hear(p), b.s.hear(p)
	if !bytes.Equal(back, want) {
		b.t.Errorf("Hear of %x sends back %x, want %x", p, back, want)
	}
	b.like()
	return back
}

func (b *both) step() bool {
	b.t.Helper()
	is, want := b.r.Step(), b.s.step()
	if is != want {
		b.t.Errorf("Step is %v, want %v", is, want)
	}
	b.like()
	return is
}

func (b *both) hears(p []byte) bool {
	b.t.Helper()
	is, want := b.r.Heard(p), b.s.hears(p)
	if is != want {
		b.t.Errorf("Heard of %x is %v, want %v", p, is, want)
	}
	b.like()
	return is
}

// tell tells it the next thing.
func (b *both) tell(data string) {
	b.t.Helper()
	n := uint64(len(b.s.heard)) + 1
	if back := b.hear(told(n, data)); !bytes.Equal(back, heard(n)) {
		b.t.Errorf("of the thing %d is sent back %x", n, back)
	}
}

// does asks that it does an act, and tells that.
func (b *both) does(x api.Act) {
	b.t.Helper()
	b.tell(actText(x))
	if x.Kind == api.ActGo && b.step() {
		b.t.Errorf("%v is done in one step", x)
	}
	if !b.step() {
		b.t.Errorf("%v is not done", x)
	}
	if p, is := b.r.Packet(); !is || !bytes.Equal(p, told(uint64(b.s.done), "")) {
		b.t.Errorf("behind %v it tells %x, %v", x, p, is)
	}
}

// someActs is acts of each kind, at the edges of what may be.
func someActs() []api.Act {
	return []api.Act{sample.Go(0), sample.Go(7), sample.Go(255), sample.Lift(0, 0), sample.Lift(63, 255), sample.Lift(5, 7), sample.Drop(0, 0), sample.Drop(63, 255), sample.Drop(5, 7)}
}

// noActs is bytes that are no act.
func noActs() []string {
	lift := actText(sample.Lift(5, 7))
	return []string{"", "\x00", "\x00\x00", lift[:1], lift + "\x00", lift + lift, "\x40\x01", "\x00\x07", string(sample.Bytes(200, 1))}
}

func TestExample(t *testing.T) {
	b := begun(t, 0, 10)
	b.tell(actText(sample.Go(1)))
	if b.step() {
		t.Error("the first step is the last one")
	}
	wantState(t, b.r, []int{0, 1}, 9, 0)
	if !b.step() {
		t.Error("the second step is not the last one")
	}
	wantState(t, b.r, []int{1}, 9, 1)
	if p, is := b.r.Packet(); !is || !bytes.Equal(p, told(1, "")) {
		t.Errorf("it tells %x, %v", p, is)
	}
}

// P18.1

func TestNewRobotIsInItsDock(t *testing.T) {
	for dock := range 256 {
		for _, charge := range []int{0, 1, 2, 768, math.MaxInt32, math.MaxInt} {
			b := begun(t, dock, charge)
			wantState(t, b.r, []int{dock}, charge, 0)
			if b.step() || b.hears(nil) || b.hears(heard(0)) || b.hears(heard(1)) {
				t.Error("it has something to do, or to tell")
			}
		}
	}
}

func TestNewRefuses(t *testing.T) {
	refused := func(dock, charge int) {
		t.Helper()
		if r, e := New(dock, charge); r != nil || e != api.ErrArg {
			t.Errorf("New of %d, %d: %v, error %d", dock, charge, r, e)
		}
	}
	for _, dock := range sample.Outside() {
		for _, charge := range []int{0, 1, 768, -1, math.MinInt} {
			refused(dock, charge)
		}
	}
	for _, charge := range []int{-1, -2, math.MinInt32, math.MinInt} {
		for _, dock := range []int{0, 1, 254, 255} {
			refused(dock, charge)
		}
	}
}

func TestEachActIsHeard(t *testing.T) {
	for cell := range 256 {
		for _, x := range []api.Act{sample.Go(cell), sample.Lift(cell%64, cell), sample.Drop(63-cell%64, cell)} {
			b := begun(t, 3, 5)
			b.tell(actText(x))
			if y, is := b.r.Next(); !is || y != x {
				t.Errorf("told %v, it does %v, %v", x, y, is)
			}
		}
	}
}

func TestWhatComesAgainIsNotDoneAgain(t *testing.T) {
	for _, x := range someActs() {
		b := begun(t, 7, 5)
		b.tell(actText(x))
		for range 4 {
			b.hear(told(1, actText(x)))
			b.hear(told(1, actText(sample.Lift(1, 1))))
			b.step()
		}
		wantState(t, b.r, []int{cellBehind(x, 7)}, b.r.Charge(), 1)
		// What it told is not heard by that, either.
		if _, is := b.r.Packet(); !is {
			t.Errorf("behind %v it tells nothing", x)
		}
	}
}

func cellBehind(x api.Act, from int) int {
	if x.Kind == api.ActGo {
		return x.Cell
	}
	return from
}

func TestWhatIsNoActIsHeardAndNotDone(t *testing.T) {
	for _, text := range noActs() {
		b := begun(t, 3, 5)
		b.tell(text)
		if x, is := b.r.Next(); is || b.step() {
			t.Errorf("told %q, it does %v", text, x)
		}
		b.does(sample.Go(4))
		// Of what is no act nothing is taken as heard.
		b.tell(text)
		if p, is := b.r.Packet(); !is || !bytes.Equal(p, told(1, "")) {
			t.Errorf("behind %q it tells %x, %v", text, p, is)
		}
		b.does(sample.Lift(1, 4))
	}
}

func TestWhatIsToldAheadOfTimeIsHeardAndNeverDone(t *testing.T) {
	for _, x := range someActs() {
		for steps := range 2 {
			b := begun(t, 3, 5)
			b.tell(actText(sample.Go(4)))
			for range steps {
				b.step()
			}
			b.tell(actText(x))
			b.tell("")
			if y, is := b.r.Next(); !is || y != sample.Go(4) {
				t.Errorf("told %v ahead of time, it does %v, %v", x, y, is)
			}
			for range 3 {
				b.step()
			}
			b.hear(told(2, actText(x)))
			if y, is := b.r.Next(); is || b.step() {
				t.Errorf("told %v ahead of time, it does %v later", x, y)
			}
			wantState(t, b.r, []int{4}, 4, 1)
			b.does(x)
		}
	}
}

func TestItHearsTheNextThingAlone(t *testing.T) {
	b := begun(t, 3, 5)
	lift := actText(sample.Lift(5, 3))
	right := told(1, lift)
	for _, p := range [][]byte{
		nil, {}, {0}, []byte(lift), told(0, lift), told(2, lift), told(257, lift), told(1<<32+1, lift), told(math.MaxUint64-1, lift),
		heard(0), heard(1), heard(2), right[:len(right)-1], right[1:], append(slices.Clone(right), 0), append(slices.Clone(right), right...),
	} {
		if back := b.hear(p); len(back) != 0 {
			t.Errorf("of %x is sent back %x", p, back)
		}
	}
	if b.step() {
		t.Error("it does something")
	}
	b.does(sample.Lift(5, 3))
}

func TestTheNextActSaysThatTheOneAheadWasHeard(t *testing.T) {
	for _, x := range someActs() {
		b := begun(t, 3, 5)
		b.does(sample.Go(4))
		b.tell(actText(x))
		if p, is := b.r.Packet(); is {
			t.Errorf("told %v, it still tells %x", x, p)
		}
		if b.hears(heard(1)) {
			t.Error("what was taken as heard is heard once more")
		}
		wantState(t, b.r, []int{4}, 4, 1)
		b.step()
		b.step()
		if p, is := b.r.Packet(); !is || !bytes.Equal(p, told(2, "")) {
			t.Errorf("behind %v it tells %x, %v", x, p, is)
		}
	}
}

func TestWhatWasHeardMayBeHeardAheadOfTheNextAct(t *testing.T) {
	b := begun(t, 3, 9)
	for i, x := range someActs() {
		b.does(x)
		if !b.hears(heard(uint64(i) + 1)) {
			t.Errorf("%d is not heard", i+1)
		}
	}
}

// P18.2

func TestNextTillItIsDone(t *testing.T) {
	for _, x := range someActs() {
		b := begun(t, 9, 3)
		b.tell(actText(x))
		for range 3 {
			if y, is := b.r.Next(); !is || y != x {
				t.Errorf("Next is %v, %v, want %v", y, is, x)
			}
		}
		for !b.step() {
			if y, is := b.r.Next(); !is || y != x {
				t.Errorf("begun: Next is %v, %v, want %v", y, is, x)
			}
		}
		if y, is := b.r.Next(); is || y != (api.Act{}) {
			t.Errorf("done: Next is %v, %v", y, is)
		}
		if b.step() {
			t.Errorf("%v is done twice", x)
		}
	}
}

func TestItGoesInTwoSteps(t *testing.T) {
	b := begun(t, 0, 5)
	for i, cell := range []int{1, 2, 255, 17} {
		from := b.r.Cells()[0]
		b.tell(actText(sample.Go(cell)))
		wantState(t, b.r, []int{from}, 5-i, uint64(i))
		b.step()
		wantState(t, b.r, []int{from, cell}, 4-i, uint64(i))
		b.step()
		wantState(t, b.r, []int{cell}, 4-i, uint64(i)+1)
	}
}

func TestItLiftsAndDropsInOneStepWithoutCharge(t *testing.T) {
	b := begun(t, 5, 0)
	for i, x := range []api.Act{sample.Lift(1, 5), sample.Drop(1, 5), sample.Lift(63, 255), sample.Lift(2, 0), sample.Drop(0, 7)} {
		b.does(x)
		// It is where it is, whatever the act's cell.
		wantState(t, b.r, []int{5}, 0, uint64(i)+1)
	}
}

func TestWithoutChargeItGoesNowhere(t *testing.T) {
	for _, full := range []int{0, 1, 3} {
		for _, to := range []int{5, 9} {
			b := begun(t, 5, full)
			for i := range full {
				b.does(sample.Go(i))
			}
			cell := b.r.Cells()
			b.tell(actText(sample.Go(to)))
			for range 5 {
				if b.step() {
					t.Error("it is done")
				}
				wantState(t, b.r, cell, 0, uint64(full))
			}
		}
	}
}

func TestTheLastChargeIsEnoughForAWholeStep(t *testing.T) {
	b := begun(t, 5, 1)
	b.tell(actText(sample.Go(6)))
	b.step()
	wantState(t, b.r, []int{5, 6}, 0, 0)
	if !b.step() {
		t.Error("it stays under way")
	}
	wantState(t, b.r, []int{6}, 0, 1)
}

func TestInItsDockItCanGoAgain(t *testing.T) {
	for _, full := range []int{2, 3, 768, math.MaxInt} {
		b := begun(t, 5, full)
		for round := range 3 {
			b.does(sample.Go(6))
			wantState(t, b.r, []int{6}, full-1, uint64(2*round)+1)
			b.tell(actText(sample.Go(5)))
			b.step()
			// Under way to the dock it is not there.
			wantState(t, b.r, []int{6, 5}, full-2, uint64(2*round)+1)
			b.step()
			wantState(t, b.r, []int{5}, full, uint64(2*round)+2)
		}
		// Another robot's dock, or an act in its own that goes nowhere, is none.
		b.does(sample.Go(0))
		b.does(sample.Lift(1, 5))
		wantState(t, b.r, []int{0}, full-1, 8)
	}
}

func TestItGoesToWhereItIs(t *testing.T) {
	b := begun(t, 5, 2)
	b.tell(actText(sample.Go(5)))
	b.step()
	wantState(t, b.r, []int{5}, 1, 0)
	b.step()
	wantState(t, b.r, []int{5}, 2, 1)
	b.does(sample.Go(6))
	b.tell(actText(sample.Go(6)))
	b.step()
	wantState(t, b.r, []int{6}, 0, 2)
	b.step()
	wantState(t, b.r, []int{6}, 0, 3)
}

// P18.3

func TestWhatItTellsIsToldTillItWasHeard(t *testing.T) {
	b := begun(t, 5, 9)
	for n := uint64(1); n < 5; n++ {
		b.does(sample.Go(int(n)))
		for _, p := range [][]byte{nil, {}, told(n, ""), heard(n - 1), heard(n + 1), heard(n)[1:], append(heard(n), 0), heard(n + 256)} {
			if b.hears(p) {
				t.Errorf("%x says that %d was heard", p, n)
			}
			if p, is := b.r.Packet(); !is || !bytes.Equal(p, told(n, "")) {
				t.Errorf("it tells %x, %v, want %d", p, is, n)
			}
		}
		if !b.hears(heard(n)) || b.hears(heard(n)) {
			t.Errorf("%d is not heard, or twice", n)
		}
		if p, is := b.r.Packet(); is || len(p) != 0 || b.r.Done() != n {
			t.Errorf("%d were heard, and it tells %x, %v, %d done", n, p, is, b.r.Done())
		}
	}
}

func TestNilRobot(t *testing.T) {
	var r *Robot
	for _, p := range [][]byte{nil, {}, {0}, told(0, ""), told(1, actText(sample.Go(1))), told(1, ""), heard(0), heard(1)} {
		if back := r.Hear(p); len(back) != 0 || r.Heard(p) {
			t.Errorf("of %x is sent back %x", p, back)
		}
	}
	if x, is := r.Next(); is || x != (api.Act{}) || r.Step() {
		t.Errorf("it does %v, %v", x, is)
	}
	if p, is := r.Packet(); is || len(p) != 0 {
		t.Errorf("it tells %x, %v", p, is)
	}
	wantState(t, r, nil, 0, 0)
}

func TestTheZeroRobotHearsNothing(t *testing.T) {
	r := &Robot{}
	for _, p := range [][]byte{nil, {}, told(1, actText(sample.Go(1))), told(1, ""), heard(1)} {
		if back := r.Hear(p); len(back) != 0 || r.Heard(p) || r.Step() {
			t.Errorf("of %x is sent back %x", p, back)
		}
	}
	if _, is := r.Packet(); is || r.Charge() != 0 || r.Done() != 0 || len(r.Cells()) != 1 {
		t.Errorf("it tells something: %v, or is in %v", is, r.Cells())
	}
}

// P18.4

// do is something that may happen, by a letter.
func (b *both) do(c byte) {
	n := uint64(len(b.s.heard))
	switch c {
	case 'g':
		b.tell(actText(sample.Go(1)))
	case 'h':
		b.tell(actText(sample.Go(0)))
	case 'l':
		b.tell(actText(sample.Lift(2, 1)))
	case 'n':
		b.tell("nothing")
	case 'o':
		if n > 0 {
			b.hear(told(n, b.s.heard[n-1]))
		}
	case 's':
		b.step()
	case 'p':
		b.hears(heard(uint64(b.s.done)))
	case 'q':
		b.hears(heard(uint64(b.s.done) + 1))
	}
	b.counts()
}

// counts asks for as many acts done as it has told, or is about to tell.
func (b *both) counts() {
	b.t.Helper()
	telling := 0
	if _, is := b.r.Packet(); is {
		telling = 1
	}
	if n := b.r.Done(); n != uint64(b.s.known+telling) {
		b.t.Errorf("%d done, %d told, and %d is to be told", n, b.s.known, telling)
	}
}

func TestAllOrdersOfCalls(t *testing.T) {
	for charge := range 3 {
		sample.Orders([]byte("ghlnospq"), 5, func(made []byte) {
			b := begun(t, 0, charge)
			for _, c := range made {
				b.do(c)
			}
			if t.Failed() {
				t.Fatalf("charge %d: %s", charge, made)
			}
		})
	}
}

func TestManyCalls(t *testing.T) {
	for seed := range 50 {
		draw := sample.Numbers(seed)
		b := begun(t, draw(4), draw(6))
		for range 400 {
			switch letter := "ghlnospqsm"[draw(10)]; letter {
			case 'm':
				b.tell(actText(someActs()[draw(9)]))
			default:
				b.do(letter)
			}
		}
		if t.Failed() {
			t.Fatalf("seed %d", seed)
		}
	}
}

// over is a robot that is told acts over networks that lose, double and mix: the next one when it has told that the one ahead is done.
type over struct {
	*both
	tells    *link.Sender
	hears    *link.Receiver
	to, from *net.Net
	acts     []api.Act
	draw     func(below int) int
	did      []api.Act
}

func (o *over) send(n *net.Net, b []byte) {
	if len(b) > 0 && o.draw(5) > 0 {
		n.Send(b)
	}
}

func (o *over) comesToRobot() {
	b := sample.Comes(o.to, o.draw)
	if p, e := link.Take(b); e == api.OK && p.Heard {
		o.both.hears(b)
		return
	}
	o.send(o.from, o.hear(b))
}

func (o *over) comesBack() {
	b := sample.Comes(o.from, o.draw)
	if p, e := link.Take(b); e == api.OK && p.Heard {
		o.tells.Hear(b)
		return
	}
	_, fresh, back := o.hears.Hear(b)
	o.send(o.to, back)
	if fresh {
		// That it is done says that it was heard, too.
		o.tells.Hear(heard(o.hears.Heard()))
		o.tellNext()
	}
}

func (o *over) tellNext() {
	if n := o.tells.Told(); n < uint64(len(o.acts)) {
		o.tells.Tell([]byte(actText(o.acts[n])))
	}
}

func (o *over) goesOn() {
	x, _ := o.r.Next()
	if o.step() {
		o.did = append(o.did, x)
	}
}

func (o *over) once() {
	switch o.draw(6) {
	case 0:
		b, _ := o.tells.Packet()
		o.send(o.to, b)
	case 1:
		b, _ := o.r.Packet()
		o.send(o.from, b)
	case 2:
		o.comesToRobot()
	case 3:
		o.comesBack()
	case 4:
		o.goesOn()
	case 5:
		o.to.Lose(o.draw(3))
		o.from.Lose(o.draw(3))
	}
	o.counts()
}

func someWay(draw func(below int) int) []api.Act {
	var l []api.Act
	for range 40 {
		l = append(l, someActs()[draw(9)])
	}
	return l
}

func beginOver(t *testing.T, seed int) *over {
	draw := sample.Numbers(seed)
	o := &over{both: begun(t, 7, 100), tells: link.NewSender(0), hears: link.NewReceiver(0), to: net.New(), from: net.New(), acts: someWay(draw), draw: draw}
	o.tellNext()
	return o
}

func TestOverNetworksEachActIsDoneOnceInOrder(t *testing.T) {
	for seed := range 30 {
		o := beginOver(t, seed)
		for i := 0; i < 20000 && len(o.did) < len(o.acts); i++ {
			o.once()
			if many := len(o.did); !slices.Equal(o.did, o.acts[:many]) || o.r.Done() != uint64(many) {
				t.Fatalf("seed %d: %v were done, told were %v", seed, o.did, o.acts)
			}
		}
		if len(o.did) < len(o.acts) {
			t.Errorf("seed %d: %d acts are too few", seed, len(o.did))
		}
		for range 300 {
			o.once()
		}
		if len(o.did) != len(o.acts) {
			t.Errorf("seed %d: %d acts were done, %d told", seed, len(o.did), len(o.acts))
		}
	}
}

// Rules 4 to 6

func TestWhatIsHandedInIsNeitherChangedNorKept(t *testing.T) {
	b := begun(t, 3, 5)
	for i, x := range someActs() {
		p := told(uint64(i)+1, actText(x))
		room := append(slices.Clone(p), 1, 2, 3)
		before := slices.Clone(room)
		b.hear(room[:len(p)])
		if !bytes.Equal(room, before) {
			t.Errorf("%x is changed to %x", before, room)
		}
		sample.Spoil(room, 0)
		b.like()
		b.step()
		b.step()
		back := append(heard(b.r.Done()), 1, 2)
		before = slices.Clone(back)
		b.hears(back[:len(back)-2])
		if !bytes.Equal(back, before) {
			t.Errorf("%x is changed to %x", before, back)
		}
		sample.Spoil(back, 0)
		b.like()
	}
}

func TestAnswersAreTheCallers(t *testing.T) {
	b := begun(t, 3, 5)
	first, second := b.r.Cells(), b.r.Cells()
	sample.Spoil(first, 99)
	if !slices.Equal(second, []int{3}) {
		t.Errorf("another answer's change has changed one to %v", second)
	}
	back := b.r.Hear(told(1, actText(sample.Go(4))))
	again := b.r.Hear(told(1, actText(sample.Go(4))))
	sample.Spoil(back, 0)
	if !bytes.Equal(again, heard(1)) {
		t.Errorf("another answer's change has changed one to %x", again)
	}
	b.r.Step()
	first, second = b.r.Cells(), b.r.Cells()
	sample.Spoil(first, 99)
	if !slices.Equal(second, []int{3, 4}) || !slices.Equal(b.r.Cells(), []int{3, 4}) {
		t.Errorf("another answer's change has changed one to %v, the robot to %v", second, b.r.Cells())
	}
	b.r.Step()
	p, _ := b.r.Packet()
	q, _ := b.r.Packet()
	sample.Spoil(p, 0)
	if now, _ := b.r.Packet(); !bytes.Equal(q, told(1, "")) || !bytes.Equal(now, told(1, "")) {
		t.Errorf("another answer's change has changed one to %x, what is told to %x", q, now)
	}
}

func TestRobotsStandApart(t *testing.T) {
	one, other := begun(t, 3, 5), begun(t, 3, 5)
	one.does(sample.Go(4))
	other.like()
	other.does(sample.Go(9))
	one.like()
}

func TestTheSameCallsAnswerTheSame(t *testing.T) {
	once := func() string {
		o := beginOver(t, 7)
		var all strings.Builder
		for range 500 {
			o.once()
			p, _ := o.r.Packet()
			x, _ := o.r.Next()
			all.WriteString(string(p) + strconv.Itoa(x.Cell) + strconv.Itoa(o.r.Charge()))
		}
		return all.String()
	}
	if want := once(); once() != want || once() != want {
		t.Error("two robots that were told the same differ")
	}
}

// Whatever comes, a robot is like the slow one.
func FuzzHear(f *testing.F) {
	for _, x := range someActs() {
		f.Add(told(1, actText(x)), []byte(actText(x)))
	}
	for _, text := range noActs() {
		f.Add([]byte(text), []byte(text))
	}
	f.Fuzz(func(t *testing.T, p, data []byte) {
		b := begun(t, 3, 2)
		b.hear(p)
		b.hears(p)
		for n := uint64(1); n < 4; n++ {
			b.hear(told(n, string(data)))
			b.step()
			b.hears(data)
			b.step()
		}
	})
}
