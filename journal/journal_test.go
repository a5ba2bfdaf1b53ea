package journal

import (
	"bytes"
	"math"
	"slices"
	"strconv"
	"strings"
	"testing"

	"carfax/api"
	"carfax/check"
	"carfax/disk"
	"carfax/sample"
)

// The tests hold the package against a slow one, that keeps what was noted thing by thing, and looks for nothing in bytes; a disk of its own is told, call by call, what P16.1 says.
type slow struct {
	d *disk.Disk
	// What stands on the disk, one behind the other.
	things []thing
	noted  int
}

// thing is something that was noted, and how many bytes of its frame are there.
type thing struct {
	said  string
	bytes int
}

func frameOf(said string) string {
	f, _ := check.Frame([]byte(said))
	return string(f)
}

func whole(said string) thing { return thing{said, len(said) + 4} }

func (x thing) isWhole() bool { return x.bytes == len(x.said)+4 }

// begin is how many things are whole, up to the first that is not, and how many bytes these have.
func (s *slow) begin() (int, int) {
	end := 0
	for i, x := range s.things {
		if !x.isWhole() {
			return i, end
		}
		end += x.bytes
	}
	return len(s.things), end
}

// fit lets go of what the disk has no more.
func (s *slow) fit() {
	b, _ := s.d.Read()
	left := len(b)
	for i := range s.things {
		s.things[i].bytes = min(s.things[i].bytes, left)
		left -= s.things[i].bytes
	}
	s.things = slices.DeleteFunc(s.things, func(x thing) bool { return x.bytes == 0 })
}

func (s *slow) open() ([]string, api.Errno) {
	if _, e := s.d.Read(); e != api.OK {
		return nil, e
	}
	many, end := s.begin()
	if many < len(s.things) {
		if e := s.d.Cutoff(end); e != api.OK {
			return nil, e
		}
		s.fit()
	}
	if e := s.d.Sync(); e != api.OK {
		return nil, e
	}
	s.noted = many
	var found []string
	for _, x := range s.things {
		found = append(found, x.said)
	}
	return found, api.OK
}

func (s *slow) note(said string) api.Errno {
	if len(said) > 1000 {
		return api.ErrLong
	}
	e := s.d.Append([]byte(frameOf(said)))
	if e == api.OK {
		s.things = append(s.things, whole(said))
		s.noted++
	}
	return e
}

func (s *slow) text() string {
	var all strings.Builder
	for _, x := range s.things {
		all.WriteString(frameOf(x.said)[:x.bytes])
	}
	return all.String()
}

// both is a journal's disk and the slow one, that are told the same.
type both struct {
	t *testing.T
	d *disk.Disk
	j *Journal
	s *slow
}

func begun(t *testing.T) *both {
	t.Helper()
	b := &both{t: t, d: disk.New(), s: &slow{d: disk.New()}}
	b.wantsFound(nil)
	return b
}

// laid is a journal with things that are safe, and others behind them that are not.
func laid(t *testing.T, safe, loose []string) *both {
	t.Helper()
	b := begun(t)
	b.notes(safe)
	b.sync()
	b.notes(loose)
	b.like()
	return b
}

func (b *both) same(what string, got, want api.Errno) api.Errno {
	b.t.Helper()
	if got != want {
		b.t.Errorf("%s is error %d, want %d", what, got, want)
	}
	return got
}

// open opens the journal anew; behind an error the one that was stays.
func (b *both) open() api.Errno {
	b.t.Helper()
	j, found, e := Open(b.d)
	want, wantE := b.s.open()
	b.same("Open", e, wantE)
	if (e == api.OK) != (j != nil) || !slices.Equal(texts(found), want) {
		b.t.Errorf("Open finds %q, want %q; a journal: %v; error %d", texts(found), want, j != nil, e)
	}
	if e == api.OK {
		b.j = j
	}
	return e
}

func (b *both) note(said string) api.Errno {
	b.t.Helper()
	return b.same("Note", b.j.Note([]byte(said)), b.s.note(said))
}

func (b *both) notes(all []string) {
	b.t.Helper()
	for _, said := range all {
		b.note(said)
	}
}

func (b *both) sync() api.Errno {
	b.t.Helper()
	return b.same("Sync", b.j.Sync(), b.s.d.Sync())
}

func (b *both) cut(after int) {
	b.d.Cut(after)
	b.s.d.Cut(after)
}

func (b *both) crash(keep int) {
	b.d.Crash(keep)
	b.s.d.Crash(keep)
	b.s.fit()
}

// like asks all that can be asked.
func (b *both) like() {
	b.t.Helper()
	if n := b.j.Len(); n != b.s.noted {
		b.t.Errorf("Len is %d, want %d", n, b.s.noted)
	}
	sameDisks(b.t, b.d, b.s.d)
	if got, e := b.d.Read(); e == api.OK && string(got) != b.s.text() {
		b.t.Errorf("on the disk is %q, want %q", sample.Short(string(got)), sample.Short(b.s.text()))
	}
	// When the power goes off by itself is to be seen by operations alone.
	one, other := b.d.Copy(), b.s.d.Copy()
	for i := range 4 {
		if e, want := one.Sync(), other.Sync(); e != want {
			b.t.Errorf("%d operations later the disk answers error %d, want %d", i, e, want)
		}
	}
}

func sameDisks(t *testing.T, got, want *disk.Disk) {
	t.Helper()
	a, e := got.Read()
	b, f := want.Read()
	if !bytes.Equal(a, b) || e != f || got.Safe() != want.Safe() || got.Dead() != want.Dead() {
		t.Errorf("a disk with %q, error %d, safe %d, dead %v, want %q, error %d, safe %d, dead %v",
			sample.Short(string(a)), e, got.Safe(), got.Dead(), sample.Short(string(b)), f, want.Safe(), want.Dead())
	}
}

func (b *both) want(what string, got, want api.Errno) {
	b.t.Helper()
	b.same(what, got, want)
	b.like()
}

// wantsFound opens the journal anew, and asks for what it finds.
func (b *both) wantsFound(want []string) {
	b.t.Helper()
	j, found, e := Open(b.d.Copy())
	if e != api.OK || j == nil || !slices.Equal(texts(found), want) || j.Len() != len(want) {
		b.t.Fatalf("Open finds %q, Len %d, error %d, want %q", texts(found), j.Len(), e, want)
	}
	b.want("Open", b.open(), api.OK)
}

// wantsOnDisk asks for the disk's bytes, all of them safe.
func wantsOnDisk(t *testing.T, d *disk.Disk, want string) {
	t.Helper()
	if b, e := d.Read(); string(b) != want || e != api.OK || d.Safe() != len(want) {
		t.Errorf("on the disk is %q, error %d, safe %d, want %q", sample.Short(string(b)), e, d.Safe(), sample.Short(want))
	}
}

func texts(l [][]byte) []string {
	var out []string
	for _, b := range l {
		out = append(out, string(b))
	}
	return out
}

func framesOf(all []string) string {
	var out strings.Builder
	for _, said := range all {
		out.WriteString(frameOf(said))
	}
	return out.String()
}

// holding is a disk with some bytes, all of them safe, or none of them.
func holding(text string, safe bool) *disk.Disk {
	d := disk.New()
	d.Append([]byte(text))
	if safe {
		d.Sync()
	}
	return d
}

// said is things of many lengths, among them such as look like frames.
func said() []string {
	inside := frameOf("inside")
	return []string{
		"", "a", "", "ab", inside, inside + inside, inside[:len(inside)-1], "\x00\x00\x1d\x0f", strings.Repeat("\x00", 9),
		string(sample.Bytes(255, 1)), string(sample.Bytes(256, 2)), string(sample.Bytes(999, 3)), string(sample.Bytes(1000, 4)), strings.Repeat("\xff", 1000), "",
	}
}

// P16.1, Open

func TestExample(t *testing.T) {
	b := begun(t)
	b.want("Note", b.note("a"), api.OK)
	b.want("Sync", b.sync(), api.OK)
	b.want("Note", b.note("b"), api.OK)
	b.crash(3)
	b.wantsFound([]string{"a"})
	wantsOnDisk(t, b.d, string([]byte{0, 1, 97, 131, 42}))
}

func TestOpenOfNil(t *testing.T) {
	if j, found, e := Open(nil); j != nil || len(found) != 0 || e != api.ErrNone {
		t.Errorf("%v, %q, error %d", j, found, e)
	}
}

func TestOpenOfANewDisk(t *testing.T) {
	for _, d := range []*disk.Disk{disk.New(), {}} {
		for range 3 {
			if j, found, e := Open(d); j == nil || len(found) != 0 || e != api.OK || j.Len() != 0 {
				t.Errorf("%v, %q, error %d", j, found, e)
			}
			wantsOnDisk(t, d, "")
		}
	}
}

func TestOpenOfADeadDisk(t *testing.T) {
	for _, all := range []string{"", "x", frameOf("a"), frameOf("a") + "x"} {
		d := holding(all, false)
		d.Cut(0)
		d.Sync()
		before := d.Copy()
		for range 3 {
			if j, found, e := Open(d); j != nil || len(found) != 0 || e != api.ErrDead {
				t.Errorf("%v, %q, error %d", j, found, e)
			}
			sameDisks(t, d, before)
		}
		d.Crash(math.MaxInt)
		wantsOnDisk(t, d, all)
	}
}

func TestOpenFindsWhatWasNoted(t *testing.T) {
	all := said()
	for many := range len(all) + 1 {
		for safe := range many + 1 {
			b := laid(t, all[:safe], all[safe:many])
			if n := b.j.Len(); n != many {
				t.Errorf("Len is %d behind %d notes", n, many)
			}
			b.wantsFound(all[:many])
			// What was found is safe, whether it was or not.
			wantsOnDisk(t, b.d, framesOf(all[:many]))
			b.wantsFound(all[:many])
		}
	}
}

func TestOpenCutsOffWhatIsNoFrame(t *testing.T) {
	f := frameOf("some bytes")
	behind := []string{
		"", "x", "\x00", "\x00\x00", "\x00\x00\x1d", "\x00\x00\x1d\x0e", "\xff\xff", "\xff\xff\x00\x00\xff\xff",
		f[:len(f)-1], f[1:], "x" + f, f[:5] + f, f[:len(f)-1] + "x" + f,
		strings.Repeat("\x00", 3000), string(sample.Bytes(3000, 5)),
	}
	for _, all := range [][]string{nil, {""}, {"a"}, said()} {
		for _, rest := range behind {
			for _, safe := range []bool{true, false} {
				d := holding(framesOf(all)+rest, safe)
				j, found, e := Open(d)
				if e != api.OK || !slices.Equal(texts(found), all) || j.Len() != len(all) {
					t.Fatalf("with %q behind: %q, Len %d, error %d", sample.Short(rest), texts(found), j.Len(), e)
				}
				wantsOnDisk(t, d, framesOf(all))
				// What is noted now stands right behind, and is found.
				if j.Note([]byte("more")) != api.OK || j.Len() != len(all)+1 {
					t.Errorf("Len is %d behind a note", j.Len())
				}
				if _, found, e := Open(d); e != api.OK || !slices.Equal(texts(found), append(slices.Clone(all), "more")) {
					t.Errorf("with %q behind, and more: %q, error %d", sample.Short(rest), texts(found), e)
				}
			}
		}
	}
}

func TestOpenOfASpoiltByte(t *testing.T) {
	all := []string{"one", "", string(sample.Bytes(300, 6)), "four"}
	text := framesOf(all)
	for at := range text {
		many, end := 0, 0
		for end+len(all[many])+4 <= at {
			end += len(all[many]) + 4
			many++
		}
		for _, change := range []byte{1, 128, 255} {
			spoilt := []byte(text)
			spoilt[at] ^= change
			d := holding(string(spoilt), true)
			if j, found, e := Open(d); e != api.OK || !slices.Equal(texts(found), all[:many]) || j.Len() != many {
				t.Fatalf("byte %d: %q, error %d", at, texts(found), e)
			}
			wantsOnDisk(t, d, text[:end])
		}
	}
}

func TestOpenOfAFrameThatIsTooLong(t *testing.T) {
	for _, many := range []int{1001, 1002, 65535} {
		f := append([]byte{byte(many >> 8), byte(many)}, sample.Bytes(many, 7)...)
		sum := check.Sum(f)
		f = append(f, byte(sum>>8), byte(sum))
		d := holding(frameOf("a")+string(f)+frameOf("b"), true)
		if _, found, e := Open(d); e != api.OK || !slices.Equal(texts(found), []string{"a"}) {
			t.Errorf("%q, error %d", texts(found), e)
		}
		wantsOnDisk(t, d, frameOf("a"))
	}
}

func TestOpenWhenThePowerGoesOff(t *testing.T) {
	for _, all := range [][]string{nil, {"a"}, {"a", "", "bc"}} {
		for _, rest := range []string{"", "x", "\x00\x02b"} {
			operations := 1
			if rest != "" {
				operations = 2
			}
			for after := range 4 {
				d := holding(framesOf(all)+rest, false)
				d.Cut(after)
				j, found, e := Open(d)
				if after >= operations {
					if e != api.OK || j.Len() != len(all) || !slices.Equal(texts(found), all) {
						t.Errorf("%d operations, Cut %d: %q, error %d", operations, after, texts(found), e)
					}
					wantsOnDisk(t, d, framesOf(all))
					// No operation more than these was asked of the disk.
					for i := range after - operations + 1 {
						if e := d.Sync(); (e == api.OK) != (i < after-operations) {
							t.Errorf("%d operations, Cut %d: error %d of the one %d later", operations, after, e, i)
						}
					}
					continue
				}
				if j != nil || len(found) != 0 || e != api.ErrDead || !d.Dead() {
					t.Errorf("%d operations, Cut %d: %v, %q, error %d", operations, after, j, texts(found), e)
				}
				d.Crash(math.MaxInt)
				want := framesOf(all)
				if after == 0 {
					want += rest
				}
				wantsOnDisk(t, d, want)
			}
		}
	}
}

func TestOpenSyncsWhatIsNotSafe(t *testing.T) {
	all := []string{"a", "", "bc"}
	b := laid(t, nil, all)
	if n := b.d.Safe(); n != 0 {
		t.Errorf("Safe is %d ahead of a Sync", n)
	}
	b.wantsFound(all)
	b.crash(0)
	b.wantsFound(all)
}

func TestOpenOfAFullDisk(t *testing.T) {
	const many = 1048576 / 4
	d := holding(strings.Repeat("\x00\x00\x1d\x0f", many), false)
	j, found, e := Open(d)
	if e != api.OK || len(found) != many || j.Len() != many || d.Safe() != 1048576 {
		t.Errorf("%d things, Len %d, safe %d, error %d", len(found), j.Len(), d.Safe(), e)
	}
	if e := j.Note(nil); e != api.ErrLong || j.Len() != many {
		t.Errorf("error %d, Len %d", e, j.Len())
	}
	// Nothing but bytes 0, that are no frame.
	d = holding(strings.Repeat("\x00", 1048576), false)
	if j, found, e := Open(d); e != api.OK || len(found) != 0 || j.Len() != 0 {
		t.Errorf("%d things, error %d", len(found), e)
	}
	wantsOnDisk(t, d, "")
}

// P16.1, Note, Sync, Len

func TestNoteLaysAFrame(t *testing.T) {
	b := begun(t)
	want := ""
	for i, text := range said() {
		want += frameOf(text)
		b.want("Note", b.note(text), api.OK)
		if got, _ := b.d.Read(); string(got) != want || b.d.Safe() != 0 || b.j.Len() != i+1 {
			t.Errorf("behind note %d: %q, safe %d, Len %d, want %q", i, sample.Short(string(got)), b.d.Safe(), b.j.Len(), sample.Short(want))
		}
	}
}

func TestNoteOfNoBytes(t *testing.T) {
	d := disk.New()
	j, _, _ := Open(d)
	for i, b := range [][]byte{nil, {}, nil} {
		if e := j.Note(b); e != api.OK || j.Len() != i+1 {
			t.Errorf("error %d, Len %d", e, j.Len())
		}
	}
	j.Sync()
	wantsOnDisk(t, d, "\x00\x00\x1d\x0f\x00\x00\x1d\x0f\x00\x00\x1d\x0f")
	if _, found, e := Open(d); e != api.OK || !slices.Equal(texts(found), []string{"", "", ""}) {
		t.Errorf("%q, error %d", texts(found), e)
	}
}

func TestNoteOfMoreThanMayBe(t *testing.T) {
	b := laid(t, []string{"a"}, []string{"b"})
	for _, many := range []int{1001, 1002, 65535, 65536, 65537, 1 << 20, 1<<20 + 1} {
		b.want("Note", b.note(strings.Repeat("x", many)), api.ErrLong)
	}
	if b.j.Len() != 2 {
		t.Errorf("Len is %d", b.j.Len())
	}
	b.want("Note", b.note(strings.Repeat("x", 1000)), api.OK)
	b.wantsFound([]string{"a", "b", strings.Repeat("x", 1000)})
}

// What is too long is refused ahead of the disk, whether its power is on or off, and is no operation of it.
func TestNoteOfMoreThanMayBeAsksNoDisk(t *testing.T) {
	long := strings.Repeat("x", 1001)
	b := laid(t, []string{"a"}, []string{"b"})
	b.cut(1)
	for range 3 {
		b.want("Note", b.note(long), api.ErrLong)
	}
	b.want("Note", b.note("c"), api.OK)
	b.want("Note", b.note("d"), api.ErrDead)
	b.want("Note", b.note(long), api.ErrLong)
	b.want("Note", b.note("e"), api.ErrDead)
	b.crash(99)
	b.wantsFound([]string{"a", "b", "c"})
}

func TestNoteOnAFullDisk(t *testing.T) {
	b := begun(t)
	full := strings.Repeat("x", 1000)
	many := 0
	for b.note(full) == api.OK {
		many++
	}
	// 1048576 is 1044 frames of 1004 bytes, and 400 bytes.
	if many != 1044 {
		t.Errorf("%d things", many)
	}
	b.like()
	b.want("Note", b.note(full[:397]), api.ErrLong)
	b.want("Sync", b.sync(), api.OK)
	b.want("Note", b.note(full[:392]), api.OK)
	b.want("Note", b.note("x"), api.ErrLong)
	b.want("Note", b.note(""), api.OK)
	b.want("Note", b.note(""), api.ErrLong)
	b.want("Note", b.note(strings.Repeat("x", 1001)), api.ErrLong)
	if b.j.Len() != 1046 {
		t.Errorf("Len is %d", b.j.Len())
	}
	// The disk's refusal is an operation, that of the length is none.
	b.cut(2)
	b.want("Note", b.note(strings.Repeat("x", 1001)), api.ErrLong)
	b.want("Note", b.note(""), api.ErrLong)
	b.want("Note", b.note(""), api.ErrLong)
	b.want("Note", b.note(""), api.ErrDead)
	b.crash(0)
	b.open()
	b.like()
	if b.j.Len() != 1044 {
		t.Errorf("Len is %d behind a crash", b.j.Len())
	}
	b.want("Note", b.note(full[:396]), api.OK)
	b.want("Note", b.note(""), api.ErrLong)
}

func TestWithThePowerOff(t *testing.T) {
	b := laid(t, []string{"a"}, []string{"b"})
	b.cut(0)
	b.want("Note", b.note("c"), api.ErrDead)
	for range 3 {
		b.want("Note", b.note("d"), api.ErrDead)
		b.want("Note", b.note(""), api.ErrDead)
		b.want("Sync", b.sync(), api.ErrDead)
		b.want("Open", b.open(), api.ErrDead)
		if b.j.Len() != 2 {
			t.Errorf("Len is %d", b.j.Len())
		}
	}
	b.crash(0)
	b.wantsFound([]string{"a"})
}

func TestSyncMakesAllSafe(t *testing.T) {
	b := begun(t)
	var all []string
	for i, text := range said() {
		b.want("Note", b.note(text), api.OK)
		all = append(all, text)
		if i%3 == 2 {
			b.want("Sync", b.sync(), api.OK)
			wantsOnDisk(t, b.d, framesOf(all))
			b.want("Sync", b.sync(), api.OK)
		}
	}
	b.cut(0)
	b.want("Sync", b.sync(), api.ErrDead)
	b.crash(0)
	b.wantsFound(all)
}

func TestLenCountsWhatIsFoundAndWhatIsNoted(t *testing.T) {
	b := begun(t)
	want := 0
	for i := range 20 {
		for range i % 4 {
			b.note("x")
			want++
		}
		if b.j.Len() != want {
			t.Errorf("Len is %d, want %d", b.j.Len(), want)
		}
		b.open()
		if b.j.Len() != want {
			t.Errorf("Len is %d behind Open, want %d", b.j.Len(), want)
		}
	}
}

func TestNilJournal(t *testing.T) {
	var j *Journal
	for range 2 {
		for _, e := range []api.Errno{j.Note(nil), j.Note([]byte("a")), j.Note(make([]byte, 1001)), j.Sync()} {
			if e != api.ErrNone {
				t.Errorf("error %d", e)
			}
		}
		if j.Len() != 0 {
			t.Errorf("Len is %d", j.Len())
		}
	}
}

func TestTheZeroJournalHasNoDisk(t *testing.T) {
	var j Journal
	if e, f := j.Note([]byte("a")), j.Sync(); e != api.ErrNone || f != api.ErrNone || j.Len() != 0 {
		t.Errorf("error %d, error %d, Len %d", e, f, j.Len())
	}
}

// P16.2

// wholeUpTo is how many things have all bytes of their frames within the first so many.
func wholeUpTo(all []string, end int) int {
	for i := range all {
		if end -= len(all[i]) + 4; end < 0 {
			return i
		}
	}
	return len(all)
}

func TestOfWhatIsNotSafeABeginningIsFound(t *testing.T) {
	all := []string{"ab", "", frameOf("inside"), string(sample.Bytes(30, 8)), "x", strings.Repeat("\x00", 12)}
	size := len(framesOf(all))
	for safe := range len(all) + 1 {
		start := len(framesOf(all[:safe]))
		for keep := -1; keep <= size-start+1; keep++ {
			many := wholeUpTo(all, start+max(keep, 0))
			for _, dies := range []bool{false, true} {
				b := laid(t, all[:safe], all[safe:])
				if dies {
					b.cut(0)
					b.want("Note", b.note("died"), api.ErrDead)
				}
				b.crash(keep)
				b.like()
				b.wantsFound(all[:many])
				wantsOnDisk(t, b.d, framesOf(all[:many]))
				b.want("Note", b.note("more"), api.OK)
				b.wantsFound(append(slices.Clone(all[:many]), "more"))
			}
		}
	}
}

// The power fails while the journal is opened, once and again, each time with another beginning.
func TestThePowerFailsWhileOpening(t *testing.T) {
	all := []string{"ab", "", "cdef", "g"}
	size := len(framesOf(all))
	for keep := range size + 1 {
		for first := range 3 {
			for second := range 3 {
				b := laid(t, all[:1], all[1:])
				b.crash(keep)
				many := wholeUpTo(all, b.d.Safe())
				for _, after := range []int{first, second} {
					b.cut(after)
					b.open()
					b.like()
					b.crash(after)
					b.like()
				}
				b.wantsFound(all[:many])
				wantsOnDisk(t, b.d, framesOf(all[:many]))
			}
		}
	}
}

// failing goes on noting, while the power fails: what was noted, and what of it was safe, is kept by what Note and Sync answered alone.
type failing struct {
	t           *testing.T
	d           *disk.Disk
	noted       []string
	safe        int
	lost, torn  int
	found, died int
}

// reopens opens the journal till the power stays on meanwhile.
func (x *failing) reopens(draw func(below int) int) *Journal {
	x.t.Helper()
	for {
		before := x.d.Copy()
		x.d.Cut(draw(4) - 1)
		j, found, e := Open(x.d)
		if e != api.OK {
			if j != nil || len(found) != 0 || e != api.ErrDead {
				x.t.Fatalf("%q, error %d", texts(found), e)
			}
			x.died++
			x.d.Crash(draw(30))
			continue
		}
		x.d.Cut(-1)
		x.holds(j, texts(found))
		if b, _ := before.Read(); len(b) > x.d.Safe() {
			x.torn++
		}
		return j
	}
}

// holds asks that the first things that were noted are found, and all that were safe.
func (x *failing) holds(j *Journal, found []string) {
	x.t.Helper()
	if len(found) < x.safe || len(found) > len(x.noted) || !slices.Equal(found, x.noted[:len(found)]) {
		x.t.Fatalf("of %d that were noted, %d of them safe, %d are found: %q", len(x.noted), x.safe, len(found), found)
	}
	if j.Len() != len(found) || x.d.Safe() != len(framesOf(found)) {
		x.t.Fatalf("Len is %d, safe %d, of %q", j.Len(), x.d.Safe(), found)
	}
	x.lost += len(x.noted) - len(found)
	x.found += len(found)
	x.noted, x.safe = found, len(found)
}

func TestThePowerFailsAgainAndAgain(t *testing.T) {
	sum := failing{}
	for seed := range 60 {
		draw := sample.Numbers(seed)
		x := failing{t: t, d: disk.New()}
		j := x.reopens(draw)
		for i := range 300 {
			switch draw(12) {
			case 0:
				x.d.Cut(draw(12) - 1)
			case 1:
				x.d.Crash(draw(100) - 2)
				j = x.reopens(draw)
			case 2, 3:
				if j.Sync() == api.OK {
					x.safe = len(x.noted)
				}
			default:
				text := string(sample.Bytes(draw(30), i))
				if j.Note([]byte(text)) == api.OK {
					x.noted = append(x.noted, text)
				} else {
					x.died++
				}
			}
			if j.Len() != len(x.noted) {
				t.Fatalf("seed %d: Len is %d, want %d", seed, j.Len(), len(x.noted))
			}
		}
		sum.lost, sum.torn, sum.found, sum.died = sum.lost+x.lost, sum.torn+x.torn, sum.found+x.found, sum.died+x.died
	}
	if sum.lost < 100 || sum.torn < 100 || sum.found < 1000 || sum.died < 100 {
		t.Errorf("%d things were lost, %d frames torn, %d things found, %d calls died: too few", sum.lost, sum.torn, sum.found, sum.died)
	}
}

// call is a Note, a Sync, an Open, a Cut, or a Crash.
type call struct {
	kind byte
	n    int
}

func (b *both) do(c call) {
	b.t.Helper()
	switch c.kind {
	case 'n':
		b.note(strings.Repeat(string(rune('a'+len(b.s.things)%26)), max(c.n, 0)))
	case 's':
		b.sync()
	case 'o':
		b.open()
	case 'c':
		b.cut(c.n)
	case 'p':
		b.crash(c.n)
	}
	b.like()
}

// A journal that was not opened anew behind a crash goes on noting, too: what it notes stands on the disk, also behind what was torn.
func TestAllOrdersOfCalls(t *testing.T) {
	calls := []call{{'n', 0}, {'n', 2}, {'s', 0}, {'o', 0}, {'c', 0}, {'c', 1}, {'p', 0}, {'p', 7}}
	sample.Orders(calls, 5, func(made []call) {
		b := begun(t)
		for _, c := range made {
			b.do(c)
		}
		if t.Failed() {
			t.Fatalf("behind %v", made)
		}
	})
}

func TestManyMixedCalls(t *testing.T) {
	kinds := "nnnnnssocpo"
	for seed := range 60 {
		draw := sample.Numbers(seed)
		b := begun(t)
		for range 300 {
			b.do(call{kinds[draw(len(kinds))], draw(12) - 2 + draw(2)*draw(40)})
			if t.Failed() {
				t.Fatalf("seed %d", seed)
			}
		}
	}
}

// Rules 4 to 6

func TestWhatIsHandedInIsNeitherChangedNorKept(t *testing.T) {
	room := []byte("abcdef")
	d := disk.New()
	j, _, _ := Open(d)
	j.Note(room[1:3])
	j.Note(room[:1])
	j.Note(room[:0])
	if string(room) != "abcdef" {
		t.Errorf("changed to %q", room)
	}
	sample.Spoil(room, '!')
	if _, found, e := Open(d); e != api.OK || !slices.Equal(texts(found), []string{"bc", "a", ""}) {
		t.Errorf("behind a change of what was handed in: %q, error %d", texts(found), e)
	}
}

func TestAnswersAreTheCallers(t *testing.T) {
	all := said()
	b := laid(t, all[:5], all[5:])
	_, one, _ := Open(b.d)
	_, other, _ := Open(b.d)
	for i := range one {
		sample.Spoil(one[i], '!')
		// The ones behind it are as they were.
		if !slices.Equal(texts(one[i+1:]), all[i+1:]) {
			t.Errorf("the change of %d has changed others", i)
		}
	}
	sample.Spoil(one, nil)
	if !slices.Equal(texts(other), all) {
		t.Error("another answer's change has changed one")
	}
	b.wantsFound(all)
	b.note("more")
	b.crash(0)
	b.note("other")
	if !slices.Equal(texts(other), all) {
		t.Error("later calls have changed an answer")
	}
}

func TestTheDiskIsKeptNotCopied(t *testing.T) {
	d := disk.New()
	j, _, _ := Open(d)
	other, _, _ := Open(d.Copy())
	j.Note([]byte("a"))
	if b, _ := d.Read(); string(b) != frameOf("a") || other.Len() != 0 {
		t.Errorf("%q, Len %d", b, other.Len())
	}
	d.Cut(0)
	if e := j.Sync(); e != api.ErrDead {
		t.Errorf("error %d", e)
	}
	if e := other.Sync(); e != api.OK {
		t.Errorf("error %d of a journal of another disk", e)
	}
}

func TestTheSameCallsAnswerTheSame(t *testing.T) {
	once := func() string {
		draw := sample.Numbers(7)
		d := disk.New()
		j, _, _ := Open(d)
		var all strings.Builder
		for i := range 300 {
			e := j.Note(sample.Bytes(draw(30), i))
			if draw(10) == 0 {
				d.Cut(draw(20))
			}
			if draw(5) == 0 {
				d.Crash(draw(40))
				next, found, _ := Open(d)
				j = next
				all.WriteString(strings.Join(texts(found), ","))
			}
			all.WriteString(strconv.Itoa(int(e)+10*j.Len()) + strconv.Itoa(d.Safe()))
		}
		return all.String()
	}
	want := once()
	for range 5 {
		if once() != want {
			t.Error("two journals that were told the same differ")
		}
	}
}

func FuzzOpen(f *testing.F) {
	f.Add([]byte{}, 0)
	f.Add([]byte(frameOf("a")+frameOf("")+"\x00\x01"), 1)
	f.Add([]byte("\x00\x00\x1d\x0f\x00"), 2)
	f.Fuzz(func(t *testing.T, all []byte, after int) {
		if len(all) > api.MaxDisk {
			return
		}
		d := holding(string(all), false)
		d.Cut(after)
		found, n := check.Scan(all)
		j, got, e := Open(d)
		if e != api.OK {
			if after < 0 || after > 1 || e != api.ErrDead || j != nil || len(got) != 0 {
				t.Errorf("Cut %d: %q, error %d", after, texts(got), e)
			}
			return
		}
		if !slices.Equal(texts(got), texts(found)) || j.Len() != len(found) {
			t.Errorf("%q, Len %d, want %q", texts(got), j.Len(), texts(found))
		}
		wantsOnDisk(t, d, string(all[:n]))
	})
}
