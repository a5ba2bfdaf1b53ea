package net

import (
	"bytes"
	"slices"
	"strconv"
	"testing"

	"carfax/api"
	"carfax/sample"
)

// The tests hold the package against a slow one, that keeps all that was ever sent, and counts off those that came or were lost.
type slow struct{ sent []packet }

type packet struct {
	text string
	gone bool
}

func (s *slow) send(text string) api.Errno {
	if s.len() == 1024 {
		return api.ErrLong
	}
	s.sent = append(s.sent, packet{text: text})
	return api.OK
}

// find is which of all that were sent is at a place; -1, if none is.
func (s *slow) find(at int) int {
	for i, p := range s.sent {
		if p.gone {
			continue
		}
		if at == 0 {
			return i
		}
		at--
	}
	return -1
}

func (s *slow) peek(at int) (string, bool) {
	i := s.find(at)
	if i < 0 {
		return "", false
	}
	return s.sent[i].text, true
}

func (s *slow) lose(at int) bool {
	i := s.find(at)
	if i < 0 {
		return false
	}
	s.sent[i].gone = true
	return true
}

func (s *slow) take(at int) (string, bool) {
	text, is := s.peek(at)
	s.lose(at)
	return text, is
}

func (s *slow) len() int {
	n := 0
	for _, p := range s.sent {
		if !p.gone {
			n++
		}
	}
	return n
}

// both is a network and the slow one, that are told the same.
type both struct {
	t *testing.T
	n *Net
	s *slow
}

func begun(t *testing.T) both {
	t.Helper()
	n := New()
	if n == nil {
		t.Fatal("New is nil")
	}
	return both{t, n, &slow{}}
}

// filled is a network on which these packets are under way.
func filled(t *testing.T, texts ...string) both {
	t.Helper()
	b := begun(t)
	for _, text := range texts {
		b.send(text)
	}
	b.like()
	return b
}

func (b both) send(text string) api.Errno {
	b.t.Helper()
	e := b.n.Send([]byte(text))
	if want := b.s.send(text); e != want {
		b.t.Errorf("Send(%q) is error %d, want %d", text, e, want)
	}
	return e
}

func (b both) take(at int) (string, bool) {
	b.t.Helper()
	got, is := b.n.Take(at)
	if want, wantIs := b.s.take(at); string(got) != want || is != wantIs {
		b.t.Errorf("Take(%d) is %q, %v, want %q, %v", at, got, is, want, wantIs)
	}
	return string(got), is
}

func (b both) peek(at int) {
	b.t.Helper()
	got, is := b.n.Peek(at)
	if want, wantIs := b.s.peek(at); string(got) != want || is != wantIs {
		b.t.Errorf("Peek(%d) is %q, %v, want %q, %v", at, got, is, want, wantIs)
	}
}

func (b both) lose(at int) bool {
	b.t.Helper()
	is := b.n.Lose(at)
	if want := b.s.lose(at); is != want {
		b.t.Errorf("Lose(%d) is %v, want %v", at, is, want)
	}
	return is
}

// like asks all that can be asked.
func (b both) like() {
	b.t.Helper()
	n := b.s.len()
	if got := b.n.Len(); got != n {
		b.t.Errorf("Len is %d, want %d", got, n)
	}
	for at := -1; at <= n; at++ {
		b.peek(at)
	}
}

func (b both) wantSend(text string, want api.Errno) {
	b.t.Helper()
	if e := b.send(text); e != want {
		b.t.Errorf("Send(%q) is error %d, want %d", text, e, want)
	}
	b.like()
}

func (b both) wantTake(at int, want string) {
	b.t.Helper()
	if got, is := b.take(at); got != want || !is {
		b.t.Errorf("Take(%d) is %q, %v, want %q", at, got, is, want)
	}
	b.like()
}

func (b both) wantLose(at int, want bool) {
	b.t.Helper()
	if is := b.lose(at); is != want {
		b.t.Errorf("Lose(%d) is %v, want %v", at, is, want)
	}
	b.like()
}

// wantUnder asks for all that are under way.
func (b both) wantUnder(want ...string) {
	b.t.Helper()
	var got []string
	for at := range b.n.Len() {
		p, is := b.n.Peek(at)
		if !is {
			b.t.Errorf("none is at %d", at)
		}
		got = append(got, string(p))
	}
	if !slices.Equal(got, want) {
		b.t.Errorf("under way are %q, want %q", got, want)
	}
	b.like()
}

// wantNothingAt asks that nothing is at places, and that nothing changes by being asked there.
func (b both) wantNothingAt(places ...int) {
	b.t.Helper()
	for _, at := range places {
		if p, is := b.n.Take(at); len(p) != 0 || is {
			b.t.Errorf("Take(%d) is %q, %v", at, p, is)
		}
		if p, is := b.n.Peek(at); len(p) != 0 || is {
			b.t.Errorf("Peek(%d) is %q, %v", at, p, is)
		}
		if b.n.Lose(at) {
			b.t.Errorf("Lose(%d)", at)
		}
	}
	b.like()
}

// numbered is so many texts, no two of them alike.
func numbered(n int) []string {
	var l []string
	for i := range n {
		l = append(l, "n"+strconv.Itoa(i))
	}
	return l
}

// outside is places that no network has anything at on which there are so few packets.
func outside(n int) []int {
	l := slices.DeleteFunc(sample.Outside(), func(at int) bool { return at >= 0 && at < n })
	return append(l, -3, -n, -n-1, n, n+1, 2*n, 1024, 1025, 1<<32+n)
}

// P13.1

func TestExample(t *testing.T) {
	b := begun(t)
	b.wantSend("a", api.OK)
	b.wantSend("b", api.OK)
	b.wantTake(1, "b")
	b.wantUnder("a")
	b.wantTake(0, "a")
	b.wantUnder()
}

func TestNewHasNothingUnderWay(t *testing.T) {
	b := begun(t)
	if n := b.n.Len(); n != 0 {
		t.Errorf("Len is %d", n)
	}
	b.wantNothingAt(append(outside(0), 0)...)
	b.wantUnder()
}

func TestSendGoesBehindAllOthers(t *testing.T) {
	b := begun(t)
	for i, text := range numbered(20) {
		b.wantSend(text, api.OK)
		b.wantUnder(numbered(20)[:i+1]...)
	}
	b.wantTake(19, "n19")
	b.wantTake(0, "n0")
	b.wantSend("more", api.OK)
	b.wantUnder(append(numbered(19)[1:], "more")...)
}

func TestTakeOfEachPlace(t *testing.T) {
	for n := range 9 {
		for at := range n {
			b := filled(t, numbered(n)...)
			b.wantTake(at, numbered(n)[at])
			b.wantUnder(slices.Delete(numbered(n), at, at+1)...)
			b.wantNothingAt(outside(n - 1)...)
		}
	}
}

func TestLoseOfEachPlace(t *testing.T) {
	for n := range 9 {
		for at := range n {
			b := filled(t, numbered(n)...)
			b.wantLose(at, true)
			b.wantUnder(slices.Delete(numbered(n), at, at+1)...)
			b.wantNothingAt(outside(n - 1)...)
		}
	}
}

func TestPeekLeavesItUnderWay(t *testing.T) {
	b := filled(t, numbered(5)...)
	for at, want := range numbered(5) {
		for range 3 {
			if p, is := b.n.Peek(at); string(p) != want || !is {
				t.Errorf("Peek(%d) is %q, %v", at, p, is)
			}
			b.wantUnder(numbered(5)...)
		}
	}
}

func TestPlacesAtWhichNothingIs(t *testing.T) {
	for _, n := range []int{1, 2, 3, 7, 255, 256, 300, 1023, 1024} {
		b := filled(t, numbered(n)...)
		b.wantNothingAt(outside(n)...)
		b.wantUnder(numbered(n)...)
	}
}

func TestSendOfMoreThanMayBeUnderWay(t *testing.T) {
	b := filled(t, numbered(1023)...)
	b.wantSend("last", api.OK)
	for _, text := range []string{"more", "", "n0"} {
		b.wantSend(text, api.ErrLong)
	}
	b.wantUnder(append(numbered(1023), "last")...)
	// Each that goes leaves room for one, wherever it was, and however it went.
	b.wantTake(0, "n0")
	b.wantSend("behind a Take", api.OK)
	b.wantSend("more", api.ErrLong)
	b.wantLose(1023, true)
	b.wantSend("behind a Lose", api.OK)
	b.wantSend("more", api.ErrLong)
	// A packet that stays leaves none.
	b.peek(17)
	b.wantSend("more", api.ErrLong)
	b.wantNothingAt(outside(1024)...)
	b.wantSend("more", api.ErrLong)
	b.wantUnder(append(numbered(1023)[1:], "last", "behind a Lose")...)
}

func TestNilNet(t *testing.T) {
	var n *Net
	for _, p := range [][]byte{nil, {}, {0}, []byte("ab")} {
		if e := n.Send(p); e != api.ErrNone {
			t.Errorf("Send(%q) is error %d", p, e)
		}
	}
	for _, at := range append(outside(0), 0, 1) {
		if p, is := n.Take(at); len(p) != 0 || is {
			t.Errorf("Take(%d) is %q, %v", at, p, is)
		}
		if p, is := n.Peek(at); len(p) != 0 || is {
			t.Errorf("Peek(%d) is %q, %v", at, p, is)
		}
		if n.Lose(at) {
			t.Errorf("Lose(%d)", at)
		}
	}
	if l := n.Len(); l != 0 {
		t.Errorf("Len is %d", l)
	}
}

func TestTheZeroNetHasNothingUnderWay(t *testing.T) {
	b := both{t, &Net{}, &slow{}}
	b.wantNothingAt(append(outside(0), 0)...)
	b.wantSend("a", api.OK)
	b.wantSend("b", api.OK)
	b.wantTake(0, "a")
	b.wantUnder("b")
}

// P13.2

func TestWhatComesIsAsItWasSent(t *testing.T) {
	var every []byte
	for c := range 256 {
		every = append(every, byte(c))
	}
	texts := []string{"", "\x00", "\x00\x00", "\xff", "a", "\xc3", "a\x00b", string(every), string(bytes.Repeat(every, 400))}
	b := filled(t, texts...)
	b.wantUnder(texts...)
	for _, text := range texts {
		b.wantTake(0, text)
	}
	b.wantUnder()
}

func TestPacketsWithoutBytesAreUnderWay(t *testing.T) {
	b := begun(t)
	for _, p := range [][]byte{nil, {}, nil} {
		if e := b.n.Send(p); e != b.s.send("") {
			t.Errorf("error %d", e)
		}
	}
	b.wantUnder("", "", "")
	b.wantTake(2, "")
	b.wantLose(0, true)
	b.wantUnder("")
	b.wantTake(0, "")
	b.wantNothingAt(0)
}

func TestOfLikePacketsEachComesOnce(t *testing.T) {
	b := filled(t, "a", "a", "b", "a")
	b.wantTake(1, "a")
	b.wantUnder("a", "b", "a")
	b.wantLose(0, true)
	b.wantUnder("b", "a")
	b.wantTake(1, "a")
	b.wantTake(0, "b")
	b.wantNothingAt(0, 1, 2, 3)
}

// In whatever order they go, each of those that were sent goes once, and no other one does.
func TestEachSendIsTakenOrLostOnce(t *testing.T) {
	for seed := range 40 {
		draw := sample.Numbers(seed)
		b := filled(t, numbered(40)...)
		var gone []string
		for b.n.Len() > 0 {
			at := draw(b.n.Len())
			p, _ := b.n.Peek(at)
			gone = append(gone, string(p))
			if draw(2) == 0 {
				b.wantTake(at, string(p))
			} else {
				b.wantLose(at, true)
			}
		}
		b.wantNothingAt(0, 1, 39, 40)
		want := numbered(40)
		slices.Sort(want)
		if slices.Sort(gone); !slices.Equal(gone, want) {
			t.Errorf("seed %d: %q went", seed, gone)
		}
	}
}

// call is a Send, a Take, a Peek, or a Lose.
type call struct {
	kind byte
	at   int
}

func (b both) do(c call) {
	b.t.Helper()
	switch c.kind {
	case 's':
		b.send(strconv.Itoa(len(b.s.sent)))
	case 't':
		b.take(c.at)
	case 'p':
		b.peek(c.at)
	case 'l':
		b.lose(c.at)
	}
	b.like()
}

func TestAllOrdersOfCalls(t *testing.T) {
	calls := []call{{'s', 0}, {'t', 0}, {'t', 1}, {'p', 1}, {'l', 0}, {'l', 2}}
	sample.Orders(calls, 6, func(made []call) {
		b := begun(t)
		for _, c := range made {
			b.do(c)
		}
		if t.Failed() {
			t.Fatalf("behind %v", made)
		}
	})
}

func TestManyMixedCalls(t *testing.T) {
	var long int
	for seed := range 24 {
		draw := sample.Numbers(seed)
		b := begun(t)
		if seed%4 == 0 {
			b = filled(t, numbered(1000)...)
		}
		for i := range 400 {
			at := draw(b.n.Len()+3) - 1
			switch draw(6) {
			case 0:
				b.take(at)
			case 1:
				b.lose(at)
			case 2:
				b.peek(at)
			default:
				if b.send(strconv.Itoa(i)) == api.ErrLong {
					long++
				}
			}
			if b.n.Len() != b.s.len() || t.Failed() {
				t.Fatalf("seed %d: Len is %d, want %d", seed, b.n.Len(), b.s.len())
			}
		}
		b.like()
	}
	if long < 100 {
		t.Errorf("%d that may not be sent are too few", long)
	}
}

// Rules 4 to 6

func TestWhatIsHandedInIsNeitherChangedNorKept(t *testing.T) {
	room := []byte("abcdef")
	n := New()
	n.Send(room[1:3])
	if string(room) != "abcdef" {
		t.Errorf("changed to %q", room)
	}
	copy(room, "uvwxyz")
	n.Send(room[1:3])
	if p, _ := n.Peek(0); string(p) != "bc" {
		t.Errorf("behind a change of what was handed in: %q", p)
	}
	p, _ := n.Take(0)
	sample.Spoil(p, '!')
	q, _ := n.Take(0)
	sample.Spoil(q, '!')
	if string(room) != "uvwxyz" {
		t.Errorf("an answer's change has changed what was handed in to %q", room)
	}
}

func TestAnswersAreTheCallers(t *testing.T) {
	b := filled(t, "ab", "cd", "ef")
	first, _ := b.n.Peek(1)
	second, _ := b.n.Peek(1)
	sample.Spoil(first, '!')
	if string(second) != "cd" {
		t.Errorf("another answer's change has changed one to %q", second)
	}
	b.wantUnder("ab", "cd", "ef")
	taken, _ := b.n.Take(1)
	b.s.take(1)
	sample.Spoil(second, '!')
	if string(taken) != "cd" {
		t.Errorf("another answer's change has changed one to %q", taken)
	}
	sample.Spoil(taken, '!')
	b.wantUnder("ab", "ef")
	kept, _ := b.n.Peek(1)
	b.lose(0)
	b.send("gh")
	b.take(0)
	b.wantUnder("gh")
	if string(kept) != "ef" {
		t.Errorf("later calls have changed an answer to %q", kept)
	}
}

func TestWhatIsRefusedChangesNothing(t *testing.T) {
	for _, n := range []int{0, 3, 1024} {
		b := filled(t, numbered(n)...)
		for range 3 {
			b.wantNothingAt(outside(n)...)
			if n == 1024 {
				b.wantSend("more", api.ErrLong)
			}
			b.wantUnder(numbered(n)...)
		}
	}
}

func TestWhatWentIsNotKept(t *testing.T) {
	b := filled(t, numbered(50)...)
	for b.n.Len() > 20 {
		b.wantLose(3, true)
		b.take(0)
	}
	for _, p := range b.n.packets[len(b.n.packets):cap(b.n.packets)] {
		if p != nil {
			t.Errorf("%q is kept", p)
		}
	}
}

func TestNetsStandApart(t *testing.T) {
	one, other := filled(t, "a", "b", "c"), begun(t)
	other.wantUnder()
	other.wantSend("d", api.OK)
	one.wantUnder("a", "b", "c")
	one.wantTake(0, "a")
	one.wantSend("e", api.OK)
	other.wantUnder("d")
	other.wantLose(0, true)
	one.wantUnder("b", "c", "e")
}

func TestTheSameCallsAnswerTheSame(t *testing.T) {
	once := func() []string {
		draw := sample.Numbers(7)
		n := New()
		var all []string
		for i := range 500 {
			n.Send([]byte(strconv.Itoa(i)))
			n.Send([]byte(strconv.Itoa(draw(1000))))
			p, _ := n.Take(draw(n.Len()))
			q, _ := n.Peek(draw(n.Len() + 1))
			n.Lose(draw(2 * n.Len()))
			all = append(all, string(p), string(q), strconv.Itoa(n.Len()))
		}
		return all
	}
	want := once()
	for range 5 {
		if !slices.Equal(once(), want) {
			t.Error("two networks that were told the same differ")
		}
	}
}
