package aging

import (
	"slices"
	"testing"

	"carfax/api"
	"carfax/sample"
)

// The tests hold the package against a slow one, that keeps all that ever came and who was taken, and counts from that how often one was bypassed.
type slow struct {
	step int
	came []one
	// The IDs of those that were taken.
	taken []int
}

// one is one that came: its ID is its place.
type one struct {
	prio int
	gone bool
}

func (s *slow) all() []api.Waiter {
	var l []api.Waiter
	for id, c := range s.came {
		if !c.gone {
			l = append(l, api.Waiter{ID: id, Prio: c.prio, Bypass: s.bypassed(id)})
		}
	}
	return l
}

// bypassed is how many that came later than one were taken: all of them while it waited, if it waits.
func (s *slow) bypassed(id int) int {
	n := 0
	for _, other := range s.taken {
		if other > id {
			n++
		}
	}
	return n
}

func (s *slow) most(prio int) int { return s.step * (5 - prio) }

func (s *slow) add(prio int) (int, api.Errno) {
	switch {
	case prio < 0 || prio > 5:
		return 0, api.ErrArg
	case len(s.all()) == 64:
		return 0, api.ErrLong
	}
	s.came = append(s.came, one{prio: prio})
	return len(s.came) - 1, api.OK
}

// next puts all that wait into the order in which they would be preferred now.
func (s *slow) next() (int, bool) {
	l := s.all()
	rank := func(w api.Waiter) int {
		if w.Bypass >= s.most(w.Prio) {
			return 0
		}
		return 10 - w.Prio
	}
	slices.SortStableFunc(l, func(a, b api.Waiter) int { return rank(a) - rank(b) })
	if len(l) == 0 {
		return 0, false
	}
	return l[0].ID, true
}

func (s *slow) take() (int, bool) {
	id, is := s.next()
	if is {
		s.came[id].gone = true
		s.taken = append(s.taken, id)
	}
	return id, is
}

func (s *slow) drop(id int) bool {
	if id < 0 || id >= len(s.came) || s.came[id].gone {
		return false
	}
	s.came[id].gone = true
	return true
}

// both is a queue and the slow one, that are told the same.
type both struct {
	t *testing.T
	q *Queue
	s *slow
}

func begun(t *testing.T, step int) both {
	t.Helper()
	q, e := New(step)
	if q == nil || e != api.OK {
		t.Fatalf("New(%d): error %d", step, e)
	}
	return both{t, q, &slow{step: step}}
}

// filled is a queue in which ones of these priorities wait.
func filled(t *testing.T, step int, prios ...int) both {
	t.Helper()
	b := begun(t, step)
	for _, p := range prios {
		b.add(p)
	}
	b.like()
	return b
}

func (b both) add(prio int) (int, api.Errno) {
	b.t.Helper()
	id, e := b.q.Add(prio)
	if want, wantE := b.s.add(prio); id != want || e != wantE {
		b.t.Errorf("Add(%d) is %d, error %d, want %d, error %d", prio, id, e, want, wantE)
	}
	return id, e
}

func (b both) take() (int, bool) {
	b.t.Helper()
	waited := b.q.All()
	id, is := b.q.Take()
	if want, wantIs := b.s.take(); id != want || is != wantIs {
		b.t.Errorf("Take is %d, %v, want %d, %v", id, is, want, wantIs)
	}
	b.wantInTurn(waited, id)
	return id, is
}

// wantInTurn asks P12.4, and that nobody who goes was bypassed too often.
func (b both) wantInTurn(waited []api.Waiter, id int) {
	b.t.Helper()
	at := slices.IndexFunc(waited, func(w api.Waiter) bool { return w.ID == id })
	if at < 0 {
		return
	}
	for _, w := range waited[:at] {
		if w.Prio == waited[at].Prio {
			b.t.Errorf("%d of priority %d is taken ahead of %d", id, w.Prio, w.ID)
		}
	}
	if n := b.s.bypassed(id); n > 5*b.s.step {
		b.t.Errorf("%d was bypassed %d times", id, n)
	}
}

func (b both) drop(id int) bool {
	b.t.Helper()
	is := b.q.Drop(id)
	if want := b.s.drop(id); is != want {
		b.t.Errorf("Drop(%d) is %v, want %v", id, is, want)
	}
	return is
}

func (b both) wantAdd(prio, want int, wantE api.Errno) {
	b.t.Helper()
	if id, e := b.add(prio); id != want || e != wantE {
		b.t.Errorf("Add(%d) is %d, error %d, want %d, error %d", prio, id, e, want, wantE)
	}
	b.like()
}

// wantTakes takes these, one behind the other.
func (b both) wantTakes(ids ...int) {
	b.t.Helper()
	for _, want := range ids {
		if id, is := b.take(); id != want || !is {
			b.t.Errorf("Take is %d, %v, want %d", id, is, want)
		}
		b.like()
	}
}

func (b both) wantDrop(id int, want bool) {
	b.t.Helper()
	if is := b.drop(id); is != want {
		b.t.Errorf("Drop(%d) is %v, want %v", id, is, want)
	}
	b.like()
}

func (b both) wantAll(want ...api.Waiter) {
	b.t.Helper()
	if got := b.q.All(); !slices.Equal(got, want) {
		b.t.Errorf("All is %v, want %v", got, want)
	}
}

// wantBypasses asks how often those that wait were bypassed.
func (b both) wantBypasses(want ...int) {
	b.t.Helper()
	var got []int
	for _, w := range b.q.All() {
		got = append(got, w.Bypass)
	}
	if !slices.Equal(got, want) {
		b.t.Errorf("bypassed %v times, want %v", got, want)
	}
}

// like asks all that can be asked, and P12.3.
func (b both) like() {
	b.t.Helper()
	b.wantAll(b.s.all()...)
	if n, want := b.q.Len(), len(b.s.all()); n != want {
		b.t.Errorf("Len is %d, want %d", n, want)
	}
	id, is := b.q.Next()
	if want, wantIs := b.s.next(); id != want || is != wantIs {
		b.t.Errorf("Next is %d, %v, want %d, %v", id, is, want, wantIs)
	}
	for _, w := range b.q.All() {
		if w.Bypass > b.s.most(w.Prio) {
			b.t.Errorf("step %d: too often: %v", b.s.step, w)
		}
	}
}

func (b both) wantEmpty() {
	b.t.Helper()
	b.like()
	b.wantAll()
	if id, is := b.take(); id != 0 || is {
		b.t.Errorf("Take where none waits is %d, %v", id, is)
	}
	for id := -1; id <= 70; id++ {
		b.drop(id)
	}
	b.like()
}

func times(n, prio int) []int { return slices.Repeat([]int{prio}, n) }

// numbers is the numbers from one on up to another one, that is not in it.
func numbers(from, end int) []int {
	var l []int
	for n := from; n < end; n++ {
		l = append(l, n)
	}
	return l
}

// outside is numbers that are neither priorities nor steps; some of them are one, if their lowest bits alone are looked at.
func outside() []int {
	l := slices.DeleteFunc(sample.Outside(), func(n int) bool { return n >= 0 && n <= 1000 })
	return append(l, -3, -5, -8, -1000, -1<<16, 1001, 1002, 1024, 1<<32+5, 1<<32+1000)
}

// P12.1

func TestExample(t *testing.T) {
	b := begun(t, 1)
	b.wantAdd(0, 0, api.OK)
	b.wantAdd(5, 1, api.OK)
	b.wantAdd(5, 2, api.OK)
	b.wantTakes(1)
	b.wantAll(api.Waiter{ID: 0, Bypass: 1}, api.Waiter{ID: 2, Prio: 5})
	for i, p := range []int{4, 5, 5, 5, 5, 5} {
		b.wantAdd(p, 3+i, api.OK)
	}
	b.wantTakes(2, 4, 3, 5, 0)
	b.wantAll(api.Waiter{ID: 6, Prio: 5}, api.Waiter{ID: 7, Prio: 5}, api.Waiter{ID: 8, Prio: 5})
}

func TestNewIsEmpty(t *testing.T) {
	for step := range 1001 {
		begun(t, step).wantEmpty()
	}
}

func TestNewOfWrongSteps(t *testing.T) {
	for _, step := range outside() {
		if q, e := New(step); q != nil || e != api.ErrArg {
			t.Errorf("New(%d): %v, error %d", step, q, e)
		}
	}
}

func TestAddOfEachPriority(t *testing.T) {
	for prio := range 6 {
		b := begun(t, 3)
		for id := range 64 {
			b.wantAdd(prio, id, api.OK)
		}
	}
	b := filled(t, 3, 5, 0, 4, 1, 3, 2)
	b.wantAll(api.Waiter{ID: 0, Prio: 5}, api.Waiter{ID: 1}, api.Waiter{ID: 2, Prio: 4}, api.Waiter{ID: 3, Prio: 1}, api.Waiter{ID: 4, Prio: 3}, api.Waiter{ID: 5, Prio: 2})
}

func TestAddOfWrongPriorities(t *testing.T) {
	for _, b := range []both{begun(t, 1), filled(t, 1, 2, 4, 0), filled(t, 0, times(64, 1)...)} {
		next := len(b.s.came)
		for _, prio := range append(outside(), numbers(6, 300)...) {
			// Ahead of ErrLong, too.
			b.wantAdd(prio, 0, api.ErrArg)
		}
		b.take()
		b.wantAdd(5, next, api.OK)
	}
}

func TestAddOfMoreThanMayWait(t *testing.T) {
	for prio := range 6 {
		b := filled(t, 1, times(63, 2)...)
		b.wantAdd(prio, 63, api.OK)
		for other := range 6 {
			b.wantAdd(other, 0, api.ErrLong)
		}
		b.take()
		b.wantAdd(prio, 64, api.OK)
		b.wantAdd(prio, 0, api.ErrLong)
		b.wantDrop(17, true)
		b.wantDrop(17, false)
		b.wantAdd(prio, 65, api.OK)
		b.wantAdd(prio, 0, api.ErrLong)
	}
}

func TestIDsGoOnBehindThoseThatWaitNoMore(t *testing.T) {
	b := filled(t, 1, 3, 3, 3)
	b.wantTakes(0, 1, 2)
	b.wantEmpty()
	b.wantAdd(1, 3, api.OK)
	b.wantDrop(3, true)
	b.wantAdd(5, 4, api.OK)
	b.wantAll(api.Waiter{ID: 4, Prio: 5})
	for id := 5; id < 5000; id++ {
		b.wantAdd(id%6, id, api.OK)
		b.take()
		if t.Failed() {
			t.Fatal("behind", id)
		}
	}
}

// P12.2

func TestOfThoseThatAreNotDueTheHighestGoes(t *testing.T) {
	b := filled(t, 1000, 0, 3, 1, 4, 3, 2, 4, 0)
	b.wantTakes(3, 6, 1, 4, 5, 2, 0, 7)
	b.wantEmpty()
}

func TestOfTheHighestPriorityTheFirstGoes(t *testing.T) {
	for step := range 4 {
		for prio := range 6 {
			b := filled(t, step, times(64, prio)...)
			b.wantTakes(numbers(0, 64)...)
			b.wantEmpty()
		}
	}
}

// One is bypassed by higher ones that come later, each at once taken, until it is due: not once less, and not once more.
func TestOneIsDueBehindStepTimesWhatItIsBelow(t *testing.T) {
	for _, step := range []int{1, 2, 3, 10, 199, 1000} {
		for prio := range 5 {
			for _, higher := range []int{prio + 1, 5} {
				b := begun(t, step)
				b.add(prio)
				most := step * (5 - prio)
				for i := range most {
					b.q.Add(higher)
					if id, is := b.q.Take(); id != 1+i || !is {
						t.Fatalf("step %d, priorities %d and %d: take %d is %d, %v", step, prio, higher, i, id, is)
					}
					b.wantAll(api.Waiter{Prio: prio, Bypass: i + 1})
				}
				b.q.Add(higher)
				if id, is := b.q.Take(); id != 0 || !is {
					t.Errorf("step %d, priorities %d and %d: bypassed more than %d times: %d, %v", step, prio, higher, most, id, is)
				}
				b.wantAll(api.Waiter{ID: most + 1, Prio: higher})
			}
		}
	}
}

func TestWithStep0TheFirstGoes(t *testing.T) {
	b := filled(t, 0, 0, 5, 3, 1, 4, 4, 2, 5, 0)
	b.wantTakes(numbers(0, 9)...)
	b.wantEmpty()
}

func TestOfThoseThatAreDueTheFirstGoes(t *testing.T) {
	// Behind one take 1 is due, but not 0; behind two 0 is, as all of priority 5 are.
	b := filled(t, 1, 3, 4, 5, 5, 5)
	b.wantTakes(2)
	b.wantBypasses(1, 1, 0, 0)
	b.wantTakes(1)
	b.wantBypasses(2, 0, 0)
	b.wantTakes(0, 3, 4)

	b = filled(t, 1, 4, 4, 4, 5)
	b.wantTakes(3)
	b.wantBypasses(1, 1, 1)
	b.wantAdd(5, 4, api.OK)
	b.wantTakes(0, 1, 2, 4)

	// At last both 0 and 3 are due, and 3 is higher.
	b = filled(t, 1, 2, 4, 5)
	b.wantTakes(2, 1)
	b.wantAdd(4, 3, api.OK)
	b.wantAdd(5, 4, api.OK)
	b.wantTakes(4)
	b.wantBypasses(3, 1)
	b.wantTakes(0, 3)
}

func TestOneThatIsDueGoesAheadOfHigherOnes(t *testing.T) {
	b := filled(t, 1, 3, 4, 4)
	b.wantTakes(1, 2)
	for prio := range 6 {
		b.wantAdd(prio, 3+prio, api.OK)
	}
	// Of those the one of priority 5 is due at once, as 0 is, that came first.
	b.wantTakes(0, 8)
}

func TestOnlyThoseThatCameAheadAreBypassed(t *testing.T) {
	b := filled(t, 10, 1, 2, 3, 4, 3, 2, 1)
	b.wantTakes(3)
	b.wantBypasses(1, 1, 1, 0, 0, 0)
	b.wantTakes(2)
	b.wantBypasses(2, 2, 0, 0, 0)
	b.wantTakes(4)
	b.wantBypasses(3, 3, 0, 0)
	b.wantTakes(1)
	b.wantBypasses(4, 0, 0)
	b.wantTakes(5)
	b.wantBypasses(5, 0)
	b.wantTakes(0)
	b.wantBypasses(0)
}

func TestDropOfEachChangesNoBypass(t *testing.T) {
	fill := func() both {
		b := filled(t, 10, 0, 1, 4, 2, 3, 4, 0, 4, 1)
		b.wantTakes(2, 5, 7)
		b.wantBypasses(3, 3, 2, 2, 1, 0)
		return b
	}
	ids := []int{0, 1, 3, 4, 6, 8}
	for at, id := range ids {
		b := fill()
		b.wantDrop(id, true)
		b.wantDrop(id, false)
		b.wantBypasses(slices.Delete([]int{3, 3, 2, 2, 1, 0}, at, at+1)...)
		if n := b.q.Len(); n != 5 {
			t.Errorf("Len behind a Drop is %d", n)
		}
		for _, other := range ids {
			b.wantDrop(other, other != id)
		}
		b.wantEmpty()
	}
}

func TestDropOfThoseThatDoNotWait(t *testing.T) {
	b := filled(t, 1, 0, 5, 5, 3)
	b.wantTakes(1)
	b.wantDrop(2, true)
	for _, id := range append(outside(), 1, 2, 4, 5, 63, 64, 1000) {
		b.wantDrop(id, false)
	}
	b.wantAll(api.Waiter{ID: 0, Bypass: 1}, api.Waiter{ID: 3, Prio: 3})
	b.wantDrop(0, true)
	b.wantTakes(3)
	b.wantDrop(3, false)
	b.wantEmpty()
}

func TestADroppedOneIsNotTaken(t *testing.T) {
	b := filled(t, 1, 3, 4, 5)
	b.wantTakes(2)
	// It is due, and would be next.
	b.wantDrop(1, true)
	b.wantAdd(4, 3, api.OK)
	b.wantTakes(3, 0)
}

func TestNilQueue(t *testing.T) {
	var q *Queue
	for _, n := range append(outside(), numbers(-1, 70)...) {
		if id, e := q.Add(n); id != 0 || e != api.ErrNone {
			t.Errorf("Add(%d) is %d, error %d", n, id, e)
		}
		if q.Drop(n) {
			t.Errorf("Drop(%d)", n)
		}
	}
	if id, is := q.Next(); id != 0 || is {
		t.Errorf("Next is %d, %v", id, is)
	}
	if id, is := q.Take(); id != 0 || is {
		t.Errorf("Take is %d, %v", id, is)
	}
	if n, l := q.Len(), q.All(); n != 0 || len(l) != 0 {
		t.Errorf("Len is %d, All is %v", n, l)
	}
}

func TestTheZeroQueueIsOneOfStep0(t *testing.T) {
	both{t, &Queue{}, &slow{}}.wantEmpty()
	b := both{t, &Queue{}, &slow{}}
	b.wantAdd(1, 0, api.OK)
	b.wantAdd(5, 1, api.OK)
	b.wantTakes(0, 1)
}

// P12.3, P12.4

// The one of priority 0 is bypassed as often as may be, however many of all priorities come later.
func TestNobodyIsBypassedTooOften(t *testing.T) {
	for _, step := range []int{0, 1, 2, 7, 30} {
		b := begun(t, step)
		b.add(0)
		for id := 1; b.q.All()[0].ID == 0; id++ {
			b.add(5 - id%3)
			b.take()
			b.like()
			if t.Failed() || id > 5*step+1 {
				t.Fatalf("step %d: %v", step, b.q.All())
			}
		}
		if n := b.s.bypassed(0); n != 5*step {
			t.Errorf("step %d: bypassed %d times", step, n)
		}
	}
}

// call is an Add, a Take, or a Drop.
type call struct {
	kind byte
	n    int
}

func (b both) do(c call) {
	b.t.Helper()
	switch c.kind {
	case 'a':
		b.add(c.n)
	case 't':
		b.take()
	case 'd':
		b.drop(c.n)
	}
	b.like()
}

func TestAllOrdersOfCalls(t *testing.T) {
	calls := []call{{'a', 3}, {'a', 4}, {'a', 5}, {'t', 0}, {'d', 0}, {'d', 1}}
	for step := range 3 {
		sample.Orders(calls, 6, func(made []call) {
			b := begun(t, step)
			for _, c := range made {
				b.do(c)
			}
			if t.Failed() {
				t.Fatalf("step %d: behind %v", step, made)
			}
		})
	}
}

func TestManyMixedCalls(t *testing.T) {
	var long, bypassed int
	for seed := range 60 {
		draw := sample.Numbers(seed)
		b := begun(t, []int{0, 1, 2, 5, 20, 1000}[seed%6])
		// Some seeds add more often than they take, so that many wait.
		takes := 2 + seed%5
		for range 600 {
			c := call{'a', draw(8) - 1}
			switch draw(10) {
			case 0:
				c = call{'d', draw(len(b.s.came)+2) - 1}
			case 1, 2, 3, 4, 5:
				if draw(6) < takes {
					c = call{'t', 0}
				}
			}
			if c.kind == 'a' && c.n >= 0 && c.n <= 5 && b.q.Len() == 64 {
				long++
			}
			b.do(c)
			if t.Failed() {
				t.Fatalf("seed %d: %v", seed, c)
			}
		}
		for b.q.Len() > 0 {
			b.take()
			b.like()
		}
		for id := range b.s.came {
			bypassed += min(1, b.s.bypassed(id))
		}
	}
	if long < 1000 || bypassed < 1000 {
		t.Errorf("%d that may not wait, and %d that were bypassed, are too few", long, bypassed)
	}
}

// Rules 2 to 6

// some is a queue in which some wait, one is due, and others were bypassed.
func some(t *testing.T) both {
	t.Helper()
	b := filled(t, 2, 4, 0, 5, 3, 5, 1)
	b.wantTakes(2, 4)
	b.wantBypasses(2, 2, 1, 0)
	return b
}

func TestWhatIsRefusedChangesNothing(t *testing.T) {
	b := some(t)
	want := b.q.All()
	for _, n := range outside() {
		if id, e := b.q.Add(n); id != 0 || e != api.ErrArg {
			t.Errorf("Add(%d) is %d, error %d", n, id, e)
		}
		if b.q.Drop(n) {
			t.Errorf("Drop(%d)", n)
		}
	}
	b.like()
	b.wantAll(want...)
	b.wantAdd(0, 6, api.OK)
}

func TestWhatOnlyAsksChangesNothing(t *testing.T) {
	b := some(t)
	want := b.q.All()
	for range 20 {
		b.like()
		b.wantAll(want...)
	}
}

func TestQueuesStandApart(t *testing.T) {
	one, other := some(t), begun(t, 0)
	other.wantEmpty()
	other.wantAdd(5, 0, api.OK)
	one.wantDrop(3, true)
	other.wantAdd(1, 1, api.OK)
	one.wantTakes(0)
	other.wantTakes(0, 1)
	other.wantEmpty()
	one.like()
}

func TestAnswersAreTheCallers(t *testing.T) {
	b := some(t)
	first, second := b.q.All(), b.q.All()
	want := slices.Clone(second)
	first = first[:cap(first)]
	for i := range first {
		first[i] = api.Waiter{ID: 99, Prio: 99, Bypass: 99}
	}
	b.like()
	b.wantTakes(0, 3)
	b.wantAdd(5, 6, api.OK)
	b.wantTakes(6)
	if !slices.Equal(second, want) {
		t.Errorf("behind a change of another answer, and later calls: %v, want %v", second, want)
	}
}

func TestTheSameCallsAnswerTheSame(t *testing.T) {
	once := func() []api.Waiter {
		draw := sample.Numbers(7)
		q, _ := New(3)
		var all []api.Waiter
		for range 500 {
			q.Add(draw(6))
			q.Add(draw(6))
			id, _ := q.Take()
			q.Drop(id + draw(9))
			all = append(all, q.All()...)
		}
		return all
	}
	want := once()
	for range 5 {
		if !slices.Equal(once(), want) {
			t.Error("two queues that were told the same differ")
		}
	}
}
