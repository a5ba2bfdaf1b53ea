package heap

import (
	"math"
	"slices"
	"testing"

	"carfax/api"
)

// slow is items in the order in which they were pushed, gone through one by one for the least.
type slow struct{ items []api.Item }

func (s *slow) push(x api.Item) { s.items = append(s.items, x) }

func (s *slow) least() (int, bool) {
	if len(s.items) == 0 {
		return 0, false
	}
	at := 0
	for i, x := range s.items {
		if x.Key < s.items[at].Key {
			at = i
		}
	}
	return at, true
}

func (s *slow) peek() (api.Item, bool) {
	at, is := s.least()
	if !is {
		return api.Item{}, false
	}
	return s.items[at], true
}

func (s *slow) pop() (api.Item, bool) {
	x, is := s.peek()
	if at, _ := s.least(); is {
		s.items = slices.Delete(s.items, at, at+1)
	}
	return x, is
}

// slowSort puts each item behind all ahead of it that are not greater.
func slowSort(l []api.Item) []api.Item {
	var out []api.Item
	for _, x := range l {
		at := len(out)
		for at > 0 && out[at-1].Key > x.Key {
			at--
		}
		out = slices.Insert(out, at, x)
	}
	return out
}

// keyed is items of keys, with their places as values.
func keyed(keys ...int) []api.Item {
	var l []api.Item
	for i, key := range keys {
		l = append(l, api.Item{Key: key, Value: i})
	}
	return l
}

// some is so many items that look mixed, with at most so many keys; other ones for another seed.
func some(many, keys, seed int) []api.Item {
	n := uint32(seed)*2654435761 + 1
	l := make([]api.Item, many)
	for i := range l {
		n = n*1664525 + 1013904223
		l[i] = api.Item{Key: int(n>>8)%keys - keys/2, Value: i}
	}
	return l
}

func filled(l []api.Item) *Heap {
	h := New()
	for _, x := range l {
		h.Push(x)
	}
	return h
}

func wantLen(t *testing.T, what string, h *Heap, want int) {
	t.Helper()
	if got := h.Len(); got != want {
		t.Errorf("%s: Len %d, want %d", what, got, want)
	}
}

func wantEmpty(t *testing.T, what string, h *Heap) {
	t.Helper()
	wantLen(t, what, h, 0)
	if x, is := h.Peek(); is || x != (api.Item{}) {
		t.Errorf("%s: Peek %v %v", what, x, is)
	}
	if x, is := h.Pop(); is || x != (api.Item{}) {
		t.Errorf("%s: Pop %v %v", what, x, is)
	}
	wantLen(t, what+", behind Pop", h, 0)
}

func wantPop(t *testing.T, what string, h *Heap, want api.Item) {
	t.Helper()
	many := h.Len()
	for range 2 {
		if x, is := h.Peek(); !is || x != want {
			t.Errorf("%s: Peek %v %v, want %v", what, x, is, want)
		}
	}
	wantLen(t, what+", behind Peek", h, many)
	if x, is := h.Pop(); !is || x != want {
		t.Errorf("%s: Pop %v %v, want %v", what, x, is, want)
	}
	wantLen(t, what+", behind Pop", h, many-1)
}

func wantAll(t *testing.T, what string, h *Heap, want []api.Item) {
	t.Helper()
	wantLen(t, what, h, len(want))
	for _, x := range want {
		wantPop(t, what, h, x)
	}
	wantEmpty(t, what, h)
}

func wantSorted(t *testing.T, what string, l, want []api.Item) {
	t.Helper()
	if got := Sort(l); !slices.Equal(got, want) {
		t.Errorf("%s: Sort %v, want %v", what, got, want)
	}
}

// eachKeys goes through all lists of so many keys, from 0 to below a number.
func eachKeys(many, below int, do func(keys []int)) {
	keys := make([]int, many)
	for {
		do(keys)
		at := 0
		for at < many && keys[at] == below-1 {
			keys[at] = 0
			at++
		}
		if at == many {
			return
		}
		keys[at]++
	}
}

// P4.1

func TestNothingIsThereAtFirst(t *testing.T) {
	wantEmpty(t, "New", New())
	wantEmpty(t, "zero Heap", &Heap{})
}

func TestExample(t *testing.T) {
	h := filled(keyed(3, 1, 3, 2))
	wantAll(t, "3, 1, 3, 2", h, []api.Item{{Key: 1, Value: 1}, {Key: 2, Value: 3}, {Key: 3, Value: 0}, {Key: 3, Value: 2}})
}

func TestOneItem(t *testing.T) {
	for _, x := range []api.Item{{}, {Key: 1}, {Value: 1}, {Key: -1, Value: -1}, {Key: math.MaxInt, Value: math.MinInt}, {Key: math.MinInt, Value: math.MaxInt}} {
		wantAll(t, "one item", filled([]api.Item{x}), []api.Item{x})
	}
}

func TestAValueHasNoPartInTheOrder(t *testing.T) {
	values := []int{5, math.MinInt, 0, math.MaxInt, -7, 0, 3}
	var l []api.Item
	for _, value := range values {
		l = append(l, api.Item{Key: 4, Value: value})
	}
	wantAll(t, "one key", filled(l), l)
	wantAll(t, "twice the same item", filled([]api.Item{{Key: 2, Value: 9}, {Key: 1, Value: 9}, {Key: 2, Value: 9}}), []api.Item{{Key: 1, Value: 9}, {Key: 2, Value: 9}, {Key: 2, Value: 9}})
}

func TestKeysThatAreFarApart(t *testing.T) {
	// The difference of two of these keys would go round.
	keys := []int{0, math.MaxInt, math.MinInt, -1, 1, math.MinInt + 1, math.MaxInt - 1, math.MinInt, math.MaxInt}
	l := keyed(keys...)
	wantAll(t, "keys that are far apart", filled(l), slowSort(l))
	for _, a := range keys {
		for _, b := range keys {
			two := keyed(a, b)
			wantAll(t, "two keys", filled(two), slowSort(two))
		}
	}
}

func TestAllListsOfFewKeys(t *testing.T) {
	for many := range 8 {
		eachKeys(many, 4, func(keys []int) {
			l := keyed(keys...)
			h := filled(l)
			for i, want := range slowSort(l) {
				if x, is := h.Pop(); !is || x != want {
					t.Fatalf("keys %v: Pop %d is %v %v, want %v", keys, i, x, is, want)
				}
			}
			if x, is := h.Pop(); is || h.Len() != 0 {
				t.Fatalf("keys %v: %v is left", keys, x)
			}
		})
	}
}

// TestAllOrdersOfCalls takes each 0 for a Pop, other numbers for a Push of that key.
func TestAllOrdersOfCalls(t *testing.T) {
	for many := range 10 {
		eachKeys(many, 4, func(calls []int) {
			h, s := New(), &slow{}
			for i, call := range calls {
				if call > 0 {
					x := api.Item{Key: call, Value: i}
					h.Push(x)
					s.push(x)
				} else {
					x, is := h.Pop()
					if want, there := s.pop(); x != want || is != there {
						t.Fatalf("calls %v: call %d is %v %v, want %v %v", calls, i, x, is, want, there)
					}
				}
				x, is := h.Peek()
				if want, there := s.peek(); x != want || is != there || h.Len() != len(s.items) {
					t.Fatalf("calls %v: behind call %d Peek is %v %v, want %v %v", calls, i, x, is, want, there)
				}
			}
		})
	}
}

func TestManyMixedCalls(t *testing.T) {
	for seed := range 40 {
		h, s := New(), &slow{}
		for i, x := range some(1500, 1+seed, seed) {
			// It grows for some calls, and shrinks for some, down to nothing, too.
			if (x.Key+i)%5 < 2+i/100%2*2 && s.items != nil {
				got, is := h.Pop()
				if want, there := s.pop(); got != want || is != there {
					t.Fatalf("seed %d: call %d is %v %v, want %v %v", seed, i, got, is, want, there)
				}
				continue
			}
			h.Push(x)
			s.push(x)
		}
		wantAll(t, "what is left", h, slowSort(s.items))
	}
}

func TestAHeapThatWasEmptiedTakesItemsAgain(t *testing.T) {
	h := New()
	for round := range 5 {
		wantEmpty(t, "ahead of a round", h)
		l := some(10*round, 3, round)
		for _, x := range l {
			h.Push(x)
		}
		wantAll(t, "a round", h, slowSort(l))
		wantEmpty(t, "behind a round", h)
	}
}

func TestALaterItemOfAKeyWaitsBehindAnEarlierOne(t *testing.T) {
	h := filled(keyed(2, 2, 1, 2))
	wantPop(t, "the least", h, api.Item{Key: 1, Value: 2})
	wantPop(t, "the first of Key 2", h, api.Item{Key: 2, Value: 0})
	h.Push(api.Item{Key: 2, Value: -9})
	h.Push(api.Item{Key: 1, Value: -8})
	wantAll(t, "behind two more", h, []api.Item{{Key: 1, Value: -8}, {Key: 2, Value: 1}, {Key: 2, Value: 3}, {Key: 2, Value: -9}})
}

func TestNilHeap(t *testing.T) {
	var h *Heap
	wantEmpty(t, "nil", h)
	h.Push(api.Item{Key: 1, Value: 2})
	wantEmpty(t, "nil, behind Push", h)
}

func TestTheZeroHeapTakesItems(t *testing.T) {
	h := &Heap{}
	l := some(30, 5, 1)
	for _, x := range l {
		h.Push(x)
	}
	wantAll(t, "zero Heap", h, slowSort(l))
}

func TestHeapsStandApart(t *testing.T) {
	one, other := New(), New()
	one.Push(api.Item{Key: 1, Value: 1})
	wantEmpty(t, "the other", other)
	other.Push(api.Item{Key: 0, Value: 2})
	one.Push(api.Item{Key: 0, Value: 3})
	wantAll(t, "one", one, []api.Item{{Key: 0, Value: 3}, {Key: 1, Value: 1}})
	wantAll(t, "the other", other, []api.Item{{Key: 0, Value: 2}})
}

// P4.2

func TestSortExample(t *testing.T) {
	wantSorted(t, "3, 1, 3, 2", keyed(3, 1, 3, 2), []api.Item{{Key: 1, Value: 1}, {Key: 2, Value: 3}, {Key: 3, Value: 0}, {Key: 3, Value: 2}})
}

func TestSortOfNothing(t *testing.T) {
	for _, l := range [][]api.Item{nil, {}, keyed(3, 2, 1)[:0]} {
		if got := Sort(l); len(got) != 0 {
			t.Errorf("Sort of nothing: %v", got)
		}
	}
}

func TestSortIsAsItemsComeOutOfAHeap(t *testing.T) {
	for many := range 60 {
		l := some(many, 1+many/3, many)
		h := filled(l)
		var want []api.Item
		for h.Len() > 0 {
			x, _ := h.Pop()
			want = append(want, x)
		}
		wantSorted(t, "as out of a heap", l, want)
	}
}

func TestSortLeavesItsListAsItIs(t *testing.T) {
	room := append(keyed(3, 2, 1, 0), keyed(-1, -2)...)
	was := slices.Clone(room)
	got := Sort(room[:4])
	if !slices.Equal(room, was) {
		t.Errorf("Sort changed its list, or what is behind it: %v, was %v", room, was)
	}
	if !slices.Equal(got, []api.Item{{Key: 0, Value: 3}, {Key: 1, Value: 2}, {Key: 2, Value: 1}, {Key: 3, Value: 0}}) {
		t.Errorf("Sort of the first four: %v", got)
	}
}

func TestSortedItemsAreTheCallers(t *testing.T) {
	for _, l := range [][]api.Item{keyed(7), keyed(1, 2, 3), keyed(3, 1, 3, 2)} {
		was := slices.Clone(l)
		first, second := Sort(l), Sort(l)
		want := slices.Clone(second)
		clear(first)
		_ = append(first[:1], api.Item{Key: 99}, api.Item{Key: 99})
		if !slices.Equal(second, want) || !slices.Equal(l, was) {
			t.Errorf("behind a change of an answer: %v, want %v; the list is %v, was %v", second, want, l, was)
		}
		clear(l)
		if !slices.Equal(second, want) {
			t.Errorf("behind a change of the list: %v, want %v", second, want)
		}
	}
}

// P4.3

func TestWhatWasPushedComesOutOnce(t *testing.T) {
	for seed := range 30 {
		h := New()
		in, out := map[api.Item]int{}, map[api.Item]int{}
		pop := func() {
			if x, is := h.Pop(); is {
				out[x]++
			}
		}
		for i, x := range some(600, 50, seed) {
			x.Value %= 4
			h.Push(x)
			in[x]++
			if i%3 == seed%3 {
				pop()
			}
		}
		for h.Len() > 0 {
			pop()
		}
		for x, many := range in {
			if out[x] != many {
				t.Errorf("seed %d: %v was pushed %d times, and came out %d times", seed, x, many, out[x])
			}
		}
		for x := range out {
			if in[x] == 0 {
				t.Errorf("seed %d: %v came out, and was never pushed", seed, x)
			}
		}
	}
}

func TestKeysDoNotFallWhileNothingIsPushed(t *testing.T) {
	for seed := range 30 {
		h := New()
		for i, x := range some(900, 1000, seed) {
			h.Push(x)
			if i%40 != 39 {
				continue
			}
			last, _ := h.Pop()
			for range 25 {
				x, _ := h.Pop()
				if x.Key < last.Key || x.Key == last.Key && x.Value < last.Value {
					t.Fatalf("seed %d: %v came out behind %v", seed, x, last)
				}
				last = x
			}
		}
	}
}

// P4.4

func TestItemsAreSortedAndThoseOfOneKeyStandAsTheyStood(t *testing.T) {
	for many := range 8 {
		eachKeys(many, 4, func(keys []int) {
			l := keyed(keys...)
			if got, want := Sort(l), slowSort(l); !slices.Equal(got, want) {
				t.Fatalf("keys %v: %v, want %v", keys, got, want)
			}
		})
	}
	for seed := range 30 {
		l := some(100*seed, 1+seed*seed, seed)
		wantSorted(t, "many", l, slowSort(l))
	}
	for _, step := range []int{1, -1, 0} {
		l := some(1000, 1, 0)
		for i := range l {
			l[i].Key = i * step
		}
		wantSorted(t, "in order, the other way round, all the same", l, slowSort(l))
	}
}

func TestSortedItemsAreThoseOfTheList(t *testing.T) {
	for seed := range 20 {
		l := some(50*seed, 7, seed)
		for i := range l {
			l[i].Value %= 3
		}
		got := Sort(l)
		many := map[api.Item]int{}
		for _, x := range l {
			many[x]++
		}
		for _, x := range got {
			many[x]--
		}
		for x, left := range many {
			if left != 0 {
				t.Errorf("seed %d: %v is there %d times less than in the list", seed, x, left)
			}
		}
		if len(got) != len(l) {
			t.Errorf("seed %d: %d items of %d", seed, len(got), len(l))
		}
		wantSorted(t, "what is sorted already", got, got)
	}
}

func TestTheSameCallsAnswerTheSame(t *testing.T) {
	once := func() []api.Item {
		h := New()
		var out []api.Item
		for i, x := range some(500, 9, 3) {
			h.Push(x)
			if i%2 == 0 {
				x, _ := h.Pop()
				out = append(out, x)
			}
		}
		return append(out, Sort(some(200, 4, 5))...)
	}
	if !slices.Equal(once(), once()) {
		t.Error("two heaps that were told the same differ")
	}
}
