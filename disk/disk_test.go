package disk

import (
	"math"
	"slices"
	"strconv"
	"strings"
	"testing"

	"carfax/api"
	"carfax/sample"
)

// The tests hold the package against a slow one, that keeps what is safe and what is not as two texts, and what every operation behind a Cut was.
type slow struct {
	safe, loose string
	off         bool
	// How many operations a Cut lets be; -1, if the power doesn't go off by itself.
	cut  int
	done []string
}

func fresh() *slow { return &slow{cut: -1} }

func (s *slow) works(what string) bool {
	if s.off {
		return false
	}
	if s.cut >= 0 && len(s.done) == s.cut {
		s.off = true
		return false
	}
	if s.cut >= 0 {
		s.done = append(s.done, what)
	}
	return true
}

func (s *slow) append(text string) api.Errno {
	if !s.works("append") {
		return api.ErrDead
	}
	if len(s.safe)+len(s.loose)+len(text) > 1048576 {
		return api.ErrLong
	}
	s.loose += text
	return api.OK
}

func (s *slow) sync() api.Errno {
	if !s.works("sync") {
		return api.ErrDead
	}
	s.safe, s.loose = s.safe+s.loose, ""
	return api.OK
}

func (s *slow) cutoff(n int) api.Errno {
	if !s.works("cutoff") {
		return api.ErrDead
	}
	all := s.safe + s.loose
	if n < 0 || n > len(all) {
		return api.ErrArg
	}
	s.safe, s.loose = all[:n], ""
	return api.OK
}

func (s *slow) read() (string, api.Errno) {
	if s.off {
		return "", api.ErrDead
	}
	return s.safe + s.loose, api.OK
}

func (s *slow) cutIn(after int) {
	if s.off {
		return
	}
	s.cut, s.done = after, nil
	if after < 0 {
		s.cut = -1
	}
}

func (s *slow) crash(keep int) {
	if keep > len(s.loose) {
		keep = len(s.loose)
	}
	if keep > 0 {
		s.safe += s.loose[:keep]
	}
	s.loose, s.off, s.cut = "", false, -1
}

func (s *slow) copy() *slow {
	o := *s
	o.done = slices.Clone(s.done)
	return &o
}

// both is a disk and the slow one, that are told the same.
type both struct {
	t *testing.T
	d *Disk
	s *slow
}

func begun(t *testing.T) both {
	t.Helper()
	d := New()
	if d == nil {
		t.Fatal("New is nil")
	}
	return both{t, d, fresh()}
}

// laid is a disk with bytes that are safe, and others behind them that are not.
func laid(t *testing.T, safe, loose string) both {
	t.Helper()
	b := begun(t)
	b.append(safe)
	b.sync()
	b.append(loose)
	b.wants(safe+loose, len(safe))
	return b
}

func (b both) same(what string, got, want api.Errno) api.Errno {
	b.t.Helper()
	if got != want {
		b.t.Errorf("%s is error %d, want %d", what, got, want)
	}
	return got
}

func (b both) append(text string) api.Errno {
	b.t.Helper()
	return b.same("Append", b.d.Append([]byte(text)), b.s.append(text))
}

func (b both) sync() api.Errno {
	b.t.Helper()
	return b.same("Sync", b.d.Sync(), b.s.sync())
}

func (b both) cutoff(n int) api.Errno {
	b.t.Helper()
	return b.same("Cutoff "+strconv.Itoa(n), b.d.Cutoff(n), b.s.cutoff(n))
}

func (b both) cut(after int) {
	b.d.Cut(after)
	b.s.cutIn(after)
}

func (b both) crash(keep int) {
	b.d.Crash(keep)
	b.s.crash(keep)
}

func (b both) copy() both { return both{b.t, b.d.Copy(), b.s.copy()} }

// like asks all that can be asked.
func (b both) like() {
	b.t.Helper()
	got, e := b.d.Read()
	if want, wantE := b.s.read(); string(got) != want || e != wantE {
		b.t.Errorf("Read is %q, error %d, want %q, error %d", sample.Short(string(got)), e, sample.Short(want), wantE)
	}
	if b.d.Dead() != b.s.off {
		b.t.Errorf("Dead is %v", b.d.Dead())
	}
	if n := b.d.Safe(); n != len(b.s.safe) {
		b.t.Errorf("Safe is %d, want %d", n, len(b.s.safe))
	}
}

// wants asks for the bytes that are there, and how many of them are safe, with the power on.
func (b both) wants(want string, safe int) {
	b.t.Helper()
	if got, e := b.d.Read(); string(got) != want || e != api.OK || b.d.Dead() || b.d.Safe() != safe {
		b.t.Errorf("%q, error %d, safe %d, dead %v, want %q, safe %d", sample.Short(string(got)), e, b.d.Safe(), b.d.Dead(), sample.Short(want), safe)
	}
	b.like()
}

// wantsDead asks that the power is off, and for how many bytes are safe.
func (b both) wantsDead(safe int) {
	b.t.Helper()
	if got, e := b.d.Read(); len(got) != 0 || e != api.ErrDead || !b.d.Dead() || b.d.Safe() != safe {
		b.t.Errorf("%q, error %d, safe %d, dead %v, want safe %d, dead", sample.Short(string(got)), e, b.d.Safe(), b.d.Dead(), safe)
	}
	b.like()
}

func (b both) want(what string, got, want api.Errno) {
	b.t.Helper()
	b.same(what, got, want)
	b.like()
}

// off is a disk whose power is off, with bytes that are safe and others that are not.
func off(t *testing.T, safe, loose string) both {
	t.Helper()
	b := laid(t, safe, loose)
	b.cut(0)
	b.want("the operation ahead of which the power goes off", b.sync(), api.ErrDead)
	b.wantsDead(len(safe))
	return b
}

// P15.1

func TestExample(t *testing.T) {
	b := begun(t)
	b.want("Append", b.append("abc"), api.OK)
	b.want("Sync", b.sync(), api.OK)
	b.want("Append", b.append("de"), api.OK)
	b.crash(1)
	b.wants("abcd", 4)
}

func TestNewHasNoBytes(t *testing.T) {
	b := begun(t)
	b.wants("", 0)
	for range 3 {
		b.want("Sync", b.sync(), api.OK)
		b.want("Cutoff", b.cutoff(0), api.OK)
		b.want("Append", b.append(""), api.OK)
	}
	b.wants("", 0)
}

func TestAppendGoesBehindAllOthers(t *testing.T) {
	b := begun(t)
	want := ""
	for i := range 30 {
		text := strings.Repeat(string(rune('a'+i%26)), i%5)
		want += text
		b.want("Append", b.append(text), api.OK)
		b.wants(want, 0)
	}
}

func TestSyncMakesAllSafe(t *testing.T) {
	b := begun(t)
	b.append("abc")
	b.wants("abc", 0)
	b.want("Sync", b.sync(), api.OK)
	b.wants("abc", 3)
	b.append("d")
	b.append("ef")
	b.wants("abcdef", 3)
	b.want("Sync", b.sync(), api.OK)
	b.wants("abcdef", 6)
	b.want("Sync", b.sync(), api.OK)
	b.wants("abcdef", 6)
}

func TestCutoffOfEachPlace(t *testing.T) {
	all := "abcdefg"
	for safe := range len(all) + 1 {
		for n := range len(all) + 1 {
			b := laid(t, all[:safe], all[safe:])
			b.want("Cutoff", b.cutoff(n), api.OK)
			b.wants(all[:n], n)
			b.want("Append", b.append("xyz"), api.OK)
			b.wants(all[:n]+"xyz", n)
			b.crash(1)
			b.wants(all[:n]+"x", n+1)
		}
	}
}

func TestCutoffOfWhatIsNot(t *testing.T) {
	for _, many := range []int{0, 1, 2, 7, 255, 256, 1000} {
		text := string(sample.Bytes(many, 1))
		for _, loose := range []string{"", "de"} {
			b := laid(t, text, loose)
			all := many + len(loose)
			for _, n := range []int{-1, -2, -all - 1, all + 1, all + 2, 2*all + 1, api.MaxDisk, api.MaxDisk + 1, 1 << 32, 1<<32 + all, math.MinInt, math.MinInt + 1, math.MaxInt} {
				b.want("Cutoff", b.cutoff(n), api.ErrArg)
			}
			b.wants(text+loose, many)
		}
	}
}

func TestAppendOfMoreThanMayBe(t *testing.T) {
	full := string(sample.Bytes(1048576, 3))
	b := begun(t)
	b.want("Append", b.append(full+"x"), api.ErrLong)
	b.wants("", 0)
	b.want("Append", b.append(full), api.OK)
	b.want("Append", b.append("x"), api.ErrLong)
	b.want("Append", b.append(full), api.ErrLong)
	b.want("Append", b.append(""), api.OK)
	b.wants(full, 0)
	b.want("Sync", b.sync(), api.OK)
	b.want("Append", b.append("x"), api.ErrLong)
	b.wants(full, 1048576)
	// What is let go of leaves room.
	b.want("Cutoff", b.cutoff(1048573), api.OK)
	b.want("Append", b.append("wxyz"), api.ErrLong)
	b.want("Append", b.append("wxy"), api.OK)
	b.want("Append", b.append("z"), api.ErrLong)
	b.crash(2)
	b.want("Append", b.append("yz"), api.ErrLong)
	b.want("Append", b.append("y"), api.OK)
	b.wants(full[:1048573]+"wxy", 1048575)
}

func TestWithThePowerOff(t *testing.T) {
	b := off(t, "abc", "def")
	for range 3 {
		b.want("Append", b.append("x"), api.ErrDead)
		b.want("Append", b.append(""), api.ErrDead)
		b.want("Append", b.append(strings.Repeat("x", 1048577)), api.ErrDead)
		b.want("Sync", b.sync(), api.ErrDead)
		for _, n := range []int{0, 3, 6, 7, -1} {
			b.want("Cutoff", b.cutoff(n), api.ErrDead)
		}
		b.wantsDead(3)
	}
	// Nothing of that was done.
	b.crash(99)
	b.wants("abcdef", 6)
}

// P15.2

// The operations, done or refused, and what each answers with the power on.
func operations(b both) []func() bool {
	return []func() bool{
		func() bool { return b.append("x") == api.OK },
		func() bool { return b.append("") == api.OK },
		func() bool { return b.append(strings.Repeat("x", 1048577)) == api.ErrLong },
		func() bool { return b.sync() == api.OK },
		func() bool { return b.cutoff(1) == api.OK },
		func() bool { return b.cutoff(-1) == api.ErrArg },
		func() bool { return b.cutoff(50) == api.ErrArg },
	}
}

func TestCutGoesOffBehindSoManyOperations(t *testing.T) {
	for after := range 6 {
		for which := range operations(both{}) {
			for last := range operations(both{}) {
				b := laid(t, "abc", "def")
				b.cut(after)
				b.like()
				for i := range after {
					if !operations(b)[which]() {
						t.Errorf("operation %d of %d: not as with the power on", i, after)
					}
					b.like()
				}
				if b.d.Dead() {
					t.Errorf("dead ahead of the operation behind %d", after)
				}
				if operations(b)[last]() || !b.d.Dead() {
					t.Errorf("the power is on behind %d operations", after)
				}
				b.like()
				b.crash(math.MaxInt)
				b.like()
			}
		}
	}
}

func TestWhatIsNoOperationIsNotCounted(t *testing.T) {
	b := laid(t, "abc", "def")
	b.cut(1)
	for range 5 {
		b.wants("abcdef", 3)
		b.copy().wants("abcdef", 3)
	}
	b.want("Append", b.append("g"), api.OK)
	for range 5 {
		b.wants("abcdefg", 3)
		b.copy().wants("abcdefg", 3)
	}
	b.want("Append", b.append("h"), api.ErrDead)
	b.wantsDead(3)
}

func TestTheLastCutHolds(t *testing.T) {
	for _, first := range []int{0, 1, 2, 3, 100} {
		for done := range min(first, 3) + 1 {
			for second := range 4 {
				b := laid(t, "abc", "def")
				b.cut(first)
				for range done {
					b.want("Append", b.append("g"), api.OK)
				}
				b.cut(second)
				for range second {
					b.want("Append", b.append("h"), api.OK)
				}
				b.want("Append", b.append("i"), api.ErrDead)
				b.wantsDead(3)
			}
		}
	}
}

func TestCutBelowZeroDoesNotGoOff(t *testing.T) {
	for _, below := range []int{-1, -2, -100, math.MinInt, math.MinInt + 1} {
		for _, ahead := range []int{-1, 0, 1, 3} {
			b := laid(t, "abc", "def")
			b.cut(ahead)
			b.cut(below)
			for range 200 {
				b.want("Append", b.append("g"), api.OK)
			}
			b.wants("abcdef"+strings.Repeat("g", 200), 3)
		}
	}
}

func TestCutThatIsFarOff(t *testing.T) {
	for _, after := range []int{200, 1 << 31, 1 << 32, 1<<32 + 1, 1 << 62, math.MaxInt} {
		b := laid(t, "abc", "def")
		b.cut(after)
		for range 200 {
			b.want("Sync", b.sync(), api.OK)
		}
		b.wants("abcdef", 6)
	}
}

func TestCutWithThePowerOffDoesNothing(t *testing.T) {
	for _, after := range []int{-1, 0, 1, 5, math.MinInt, math.MaxInt} {
		b := off(t, "abc", "def")
		b.cut(after)
		b.wantsDead(3)
		b.want("Append", b.append("g"), api.ErrDead)
		b.crash(1)
		b.wants("abcd", 4)
		for range 8 {
			b.want("Append", b.append("g"), api.OK)
		}
		b.wants("abcdgggggggg", 4)
	}
}

func TestCrashKeepsABeginning(t *testing.T) {
	for _, safe := range []string{"", "a", "abc"} {
		for _, loose := range []string{"", "x", "wxyz"} {
			for keep := -2; keep <= len(loose)+2; keep++ {
				for _, b := range []both{laid(t, safe, loose), off(t, safe, loose)} {
					b.crash(keep)
					want := safe + loose[:min(max(keep, 0), len(loose))]
					b.wants(want, len(want))
				}
			}
			for _, keep := range []int{math.MaxInt, math.MaxInt - 1, 1 << 32, 1<<32 + 1} {
				for _, b := range []both{laid(t, safe, loose), off(t, safe, loose)} {
					b.crash(keep)
					b.wants(safe+loose, len(safe+loose))
				}
			}
			for _, keep := range []int{math.MinInt, math.MinInt + 1, -1 << 32, -1<<32 + 1} {
				for _, b := range []both{laid(t, safe, loose), off(t, safe, loose)} {
					b.crash(keep)
					b.wants(safe, len(safe))
				}
			}
		}
	}
}

func TestBehindACrashThePowerDoesNotGoOff(t *testing.T) {
	for after := range 4 {
		b := laid(t, "abc", "def")
		b.cut(after)
		b.crash(2)
		for range 10 {
			b.want("Append", b.append("g"), api.OK)
		}
		b.wants("abcdegggggggggg", 5)
		b.cut(0)
		b.want("Append", b.append("h"), api.ErrDead)
		b.crash(0)
		b.wants("abcde", 5)
	}
}

func TestCopyIsLikeItInAll(t *testing.T) {
	for ahead := -1; ahead < 4; ahead++ {
		for done := range 5 {
			b := laid(t, "abc", "def")
			b.cut(ahead)
			for range done {
				b.append("g")
			}
			c := b.copy()
			c.like()
			for range 5 {
				c.append("h")
				c.like()
			}
			c.crash(1)
			c.like()
			// What the copy was told has not changed what it was made of.
			b.like()
			again := b.copy()
			for range 5 {
				b.append("i")
				b.like()
			}
			b.crash(2)
			b.like()
			again.like()
			again.sync()
			again.like()
		}
	}
}

func TestCopyStandsApart(t *testing.T) {
	b := laid(t, "abc", "def")
	c := b.copy()
	b.append("ghi")
	c.append("xy")
	c.wants("abcdefxy", 3)
	b.wants("abcdefghi", 3)
	b.sync()
	b.cut(0)
	c.wants("abcdefxy", 3)
	c.want("Append", c.append("z"), api.OK)
	b.want("Append", b.append("j"), api.ErrDead)
	c.wants("abcdefxyz", 3)
	c.cutoff(1)
	c.append("uvw")
	b.crash(0)
	b.wants("abcdefghi", 9)
	c.wants("auvw", 1)
}

func TestNilDisk(t *testing.T) {
	var d *Disk
	ask := func() {
		t.Helper()
		for _, e := range []api.Errno{d.Append(nil), d.Append([]byte("a")), d.Append(make([]byte, 1048577)), d.Sync(), d.Cutoff(0), d.Cutoff(-1), d.Cutoff(1)} {
			if e != api.ErrNone {
				t.Errorf("error %d", e)
			}
		}
		if b, e := d.Read(); len(b) != 0 || e != api.ErrNone {
			t.Errorf("Read is %q, error %d", b, e)
		}
		if d.Dead() || d.Safe() != 0 || d.Copy() != nil {
			t.Errorf("%v, %d, %v", d.Dead(), d.Safe(), d.Copy())
		}
	}
	ask()
	for _, n := range []int{-1, 0, 1, math.MinInt, math.MaxInt} {
		d.Cut(n)
		ask()
		d.Crash(n)
		ask()
	}
}

func TestTheZeroDiskHasNoBytes(t *testing.T) {
	b := both{t, &Disk{}, fresh()}
	b.wants("", 0)
	for range 5 {
		b.want("Append", b.append("ab"), api.OK)
	}
	b.want("Sync", b.sync(), api.OK)
	b.wants("ababababab", 10)
	b.copy().wants("ababababab", 10)
}

// P15.3

// call is an Append, a Sync, a Cutoff, a Cut, or a Crash.
type call struct {
	kind byte
	n    int
}

func (b both) do(c call) {
	b.t.Helper()
	switch c.kind {
	case 'a':
		b.append(strings.Repeat(string(rune('a'+len(b.s.safe+b.s.loose)%26)), max(c.n, 0)))
	case 's':
		b.sync()
	case 'o':
		b.cutoff(c.n)
	case 'c':
		b.cut(c.n)
	case 'p':
		b.crash(c.n)
	}
	b.like()
}

func TestAllOrdersOfCalls(t *testing.T) {
	calls := []call{{'a', 2}, {'s', 0}, {'o', 1}, {'o', 3}, {'c', 0}, {'c', 1}, {'c', -1}, {'p', 1}}
	sample.Orders(calls, 5, func(made []call) {
		b := begun(t)
		for _, c := range made {
			b.do(c)
		}
		if t.Failed() {
			t.Fatalf("behind %v", made)
		}
	})
}

// No Cutoff: whatever is appended, and whenever the power fails, all that was safe stays, and what is there is a beginning of what was appended since it was there.
func TestWhatIsSafeStays(t *testing.T) {
	var lost, died int
	for seed := range 60 {
		draw := sample.Numbers(seed)
		b := begun(t)
		safe, appended := "", ""
		for i := range 300 {
			text := string(sample.Bytes(draw(9), i))
			switch draw(8) {
			case 0:
				b.cut(draw(12) - 1)
			case 1:
				b.crash(draw(20) - 2)
				now, e := b.d.Read()
				if e != api.OK || !strings.HasPrefix(appended, string(now)) || !strings.HasPrefix(string(now), safe) || b.d.Safe() != len(now) {
					t.Fatalf("seed %d: there is %q of %q, of which was safe %q", seed, now, appended, safe)
				}
				if len(now) < len(appended) {
					lost++
				}
				safe, appended = string(now), string(now)
			case 2:
				if b.sync() == api.OK {
					safe = appended
				}
			default:
				switch b.append(text) {
				case api.OK:
					appended += text
				case api.ErrDead:
					died++
				}
			}
			b.like()
			if b.d.Safe() != len(safe) {
				t.Fatalf("seed %d: Safe is %d, want %d", seed, b.d.Safe(), len(safe))
			}
		}
		if t.Failed() {
			t.Fatalf("seed %d", seed)
		}
	}
	if lost < 100 || died < 100 {
		t.Errorf("%d times something was lost, %d times an Append died: too few", lost, died)
	}
}

func TestManyMixedCalls(t *testing.T) {
	kinds := "aaaassocpc"
	for seed := range 60 {
		draw := sample.Numbers(seed)
		disks := []both{begun(t)}
		for range 300 {
			at := draw(len(disks))
			if draw(20) == 0 {
				disks = append(disks, disks[at].copy())
			}
			disks[at].do(call{kinds[draw(len(kinds))], draw(12) - 2 + draw(2)*draw(40)})
			if t.Failed() {
				t.Fatalf("seed %d", seed)
			}
		}
		for _, b := range disks {
			b.like()
		}
	}
}

// Rules 4 to 6

func TestWhatIsHandedInIsNeitherChangedNorKept(t *testing.T) {
	room := []byte("abcdef")
	d := New()
	d.Append(room[1:3])
	d.Append(room[0:1])
	if string(room) != "abcdef" {
		t.Errorf("changed to %q", room)
	}
	copy(room, "uvwxyz")
	if b, _ := d.Read(); string(b) != "bca" {
		t.Errorf("behind a change of what was handed in: %q", b)
	}
	d.Append(room[5:])
	b, _ := d.Read()
	sample.Spoil(b, '!')
	if string(room) != "uvwxyz" {
		t.Errorf("changed to %q", room)
	}
	if b, _ := d.Read(); string(b) != "bcaz" {
		t.Errorf("%q", b)
	}
}

func TestAnswersAreTheCallers(t *testing.T) {
	b := laid(t, "abc", "def")
	one, _ := b.d.Read()
	other, _ := b.d.Read()
	sample.Spoil(one, '!')
	if string(other) != "abcdef" {
		t.Errorf("another answer's change has changed one to %q", other)
	}
	b.wants("abcdef", 3)
	b.append("ghi")
	b.cutoff(2)
	b.append("xyz")
	if string(other) != "abcdef" {
		t.Errorf("later calls have changed an answer to %q", other)
	}
	c := b.copy()
	sample.Spoil(other, '!')
	b.wants("abxyz", 2)
	c.wants("abxyz", 2)
}

func TestWhatWentIsNotKept(t *testing.T) {
	for _, letGo := range []func(b both){
		func(b both) { b.cutoff(2) },
		func(b both) { b.crash(-1) },
	} {
		b := laid(t, "ab", strings.Repeat("secret", 50))
		letGo(b)
		b.wants("ab", 2)
		if strings.Contains(string(b.d.bytes[:cap(b.d.bytes)]), "e") {
			t.Error("what went is kept")
		}
	}
}

func TestDisksStandApart(t *testing.T) {
	one, other := laid(t, "abc", "def"), begun(t)
	other.wants("", 0)
	other.cut(0)
	one.want("Append", one.append("g"), api.OK)
	other.want("Append", other.append("h"), api.ErrDead)
	one.wants("abcdefg", 3)
	other.wantsDead(0)
}

func TestTheSameCallsAnswerTheSame(t *testing.T) {
	once := func() string {
		draw := sample.Numbers(7)
		d := New()
		var all strings.Builder
		for i := range 500 {
			e := d.Append(sample.Bytes(draw(30), i))
			if draw(10) == 0 {
				d.Cut(draw(20))
			}
			f := d.Cutoff(draw(600))
			if draw(5) == 0 {
				d.Crash(draw(40))
			}
			b, g := d.Read()
			all.WriteString(string(b) + strconv.Itoa(int(e+10*f+100*g)) + strconv.Itoa(d.Safe()))
		}
		return all.String()
	}
	want := once()
	for range 5 {
		if once() != want {
			t.Error("two disks that were told the same differ")
		}
	}
}
