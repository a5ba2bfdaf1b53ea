package bits

import (
	"math"
	"slices"
	"sort"
	"strconv"
	"strings"
	"testing"

	"carfax/api"
	"carfax/sample"
)

// The tests hold the package against texts of 0 and 1, that are made by strconv and strings alone.

const (
	greatest = uint64(math.MaxUint64)
	// The greatest number that may be laid as a count.
	greatestCount = greatest - 1
)

func wantErrno(t *testing.T, what string, got, want api.Errno) {
	t.Helper()
	if got != want {
		t.Errorf("%s: error %d, want %d", what, got, want)
	}
}

func wantLaid(t *testing.T, what string, w *Writer, text string) {
	t.Helper()
	if w.Len() != len(text) {
		t.Errorf("%s: Len %d, want %d", what, w.Len(), len(text))
	}
	if got, want := w.Out(), sample.BytesOf(text); !slices.Equal(got, want) {
		t.Errorf("%s: Out %08b, want %08b", what, got, want)
	}
}

func wantReader(t *testing.T, what string, r *Reader, left int, end api.Errno) {
	t.Helper()
	if r.Left() != left {
		t.Errorf("%s: Left %d, want %d", what, r.Left(), left)
	}
	wantErrno(t, what+": End", r.End(), end)
}

func wantNumber(t *testing.T, what string, got, want uint64) {
	t.Helper()
	if got != want {
		t.Errorf("%s: %d, want %d", what, got, want)
	}
}

// full is a writer that can take so many bits more.
func full(t *testing.T, room int) *Writer {
	t.Helper()
	w := NewWriter()
	for w.Len() < api.MaxBits-room {
		many := min(64, api.MaxBits-room-w.Len())
		wantErrno(t, "Put up to the limit", w.Put(greatest, many), api.OK)
	}
	return w
}

// numbers is a sequence of numbers of all sizes, the same each time.
func numbers(many int) []uint64 {
	out := make([]uint64, many)
	x := uint64(1)
	for i := range out {
		x = x*6364136223846793005 + 1442695040888963407
		out[i] = (x ^ x>>29) >> (x >> 58)
	}
	return out
}

// P1.1

func TestNothingIsLaidAtFirst(t *testing.T) {
	wantLaid(t, "NewWriter", NewWriter(), "")
	wantLaid(t, "zero Writer", &Writer{}, "")
}

func TestPutExample(t *testing.T) {
	w := NewWriter()
	wantErrno(t, "Put(5, 3)", w.Put(5, 3), api.OK)
	wantErrno(t, "Put(1, 2)", w.Put(1, 2), api.OK)
	if got := w.Out(); w.Len() != 5 || len(got) != 1 || got[0] != 168 {
		t.Errorf("Len %d, Out %d, want 5, [168]", w.Len(), got)
	}
}

func TestPutLaysTheLowestBitsOnly(t *testing.T) {
	for _, n := range append(numbers(50), 0, 1, greatest, 1<<63) {
		for many := 0; many <= 64; many++ {
			w := NewWriter()
			what := "Put(" + strconv.FormatUint(n, 10) + ", " + strconv.Itoa(many) + ")"
			wantErrno(t, what, w.Put(n, many), api.OK)
			wantLaid(t, what, w, sample.PutText(n, many))
		}
	}
}

func TestPutOfNoBitsLaysNothing(t *testing.T) {
	w := NewWriter()
	wantErrno(t, "Put(0 bits)", w.Put(greatest, 0), api.OK)
	wantLaid(t, "Put(0 bits)", w, "")
}

func TestPutRefusesManyThatMayNotBe(t *testing.T) {
	for _, many := range []int{-1, 65, -64, 1000, math.MinInt, math.MaxInt} {
		w := NewWriter()
		w.Put(2, 2)
		wantErrno(t, "Put("+strconv.Itoa(many)+" bits)", w.Put(1, many), api.ErrArg)
		wantLaid(t, "behind a refused Put", w, "10")
	}
}

func TestPutUpToMaxBits(t *testing.T) {
	w := full(t, 3)
	wantErrno(t, "Put of 4 with room for 3", w.Put(0, 4), api.ErrLong)
	wantErrno(t, "Put of 64 with room for 3", w.Put(0, 64), api.ErrLong)
	if w.Len() != api.MaxBits-3 {
		t.Errorf("a refused Put laid something: Len %d", w.Len())
	}
	wantErrno(t, "Put of 3 with room for 3", w.Put(2, 3), api.OK)
	wantErrno(t, "Put of 1 with no room", w.Put(1, 1), api.ErrLong)
	wantErrno(t, "Put of 0 with no room", w.Put(1, 0), api.OK)
	wantErrno(t, "Put of 65 with no room", w.Put(1, 65), api.ErrArg)
	wantErrno(t, "Put of -1 with no room", w.Put(1, -1), api.ErrArg)
	out := w.Out()
	if w.Len() != api.MaxBits || len(out) != api.MaxBits/8 {
		t.Fatalf("Len %d, %d bytes", w.Len(), len(out))
	}
	if last := out[len(out)-1]; last != 0b11111010 {
		t.Errorf("the last byte is %08b", last)
	}
}

func TestCountExamples(t *testing.T) {
	for _, x := range []struct {
		n    uint64
		text string
	}{{0, "1"}, {1, "010"}, {2, "011"}, {3, "00100"}, {4, "00101"}} {
		w := NewWriter()
		wantErrno(t, "Count", w.Count(x.n), api.OK)
		wantLaid(t, "Count("+strconv.FormatUint(x.n, 10)+")", w, x.text)
	}
}

func TestCountOfAllSizes(t *testing.T) {
	for _, n := range sample.Counts() {
		w := NewWriter()
		what := "Count(" + strconv.FormatUint(n, 10) + ")"
		wantErrno(t, what, w.Count(n), api.OK)
		wantLaid(t, what, w, sample.CountText(n))
	}
}

func TestCountOfTheGreatest(t *testing.T) {
	w := NewWriter()
	wantErrno(t, "Count(2^64 - 2)", w.Count(greatestCount), api.OK)
	wantLaid(t, "Count(2^64 - 2)", w, strings.Repeat("0", 63)+strings.Repeat("1", 64))
	wantErrno(t, "Count(2^64 - 1)", w.Count(greatest), api.ErrArg)
	if w.Len() != 127 {
		t.Errorf("a refused Count laid something: Len %d", w.Len())
	}
}

func TestCountUpToMaxBits(t *testing.T) {
	w := full(t, 4)
	wantErrno(t, "Count(3) with room for 4", w.Count(3), api.ErrLong)
	wantErrno(t, "Count(2^64 - 1) with room for 4", w.Count(greatest), api.ErrArg)
	wantErrno(t, "Count(2^64 - 2) with room for 4", w.Count(greatestCount), api.ErrLong)
	if w.Len() != api.MaxBits-4 {
		t.Errorf("a refused Count laid a part: Len %d", w.Len())
	}
	if out := w.Out(); len(out) != api.MaxBits/8 || out[len(out)-1] != 0b11110000 {
		t.Error("a refused Count left something in the last byte")
	}
	wantErrno(t, "Count(1) with room for 4", w.Count(1), api.OK)
	wantErrno(t, "Count(1) with room for 1", w.Count(1), api.ErrLong)
	wantErrno(t, "Count(0) with room for 1", w.Count(0), api.OK)
	wantErrno(t, "Count(0) with no room", w.Count(0), api.ErrLong)
	if out := w.Out(); w.Len() != api.MaxBits || out[len(out)-1] != 0b11110101 {
		t.Errorf("Len %d, the last byte is %08b", w.Len(), out[len(out)-1])
	}
}

func TestBitsAreLaidOneBehindTheOther(t *testing.T) {
	w := NewWriter()
	text := ""
	for i, n := range numbers(300) {
		if i%3 == 0 {
			n = min(n, greatestCount)
			wantErrno(t, "Count", w.Count(n), api.OK)
			text += sample.CountText(n)
		} else {
			many := i % 65
			wantErrno(t, "Put", w.Put(n, many), api.OK)
			text += sample.PutText(n, many)
		}
		wantLaid(t, "number "+strconv.Itoa(i), w, text)
	}
}

func TestOutIsTheCallers(t *testing.T) {
	w := NewWriter()
	w.Put(0xabc, 12)
	first := w.Out()
	first[0] = 0
	_ = append(first[:1], 7)
	wantLaid(t, "behind a change of an answer", w, sample.PutText(0xabc, 12))
	second := w.Out()
	w.Put(15, 4)
	if !slices.Equal(second, []byte{0xab, 0xc0}) {
		t.Errorf("a later Put changed an answer: %x", second)
	}
	wantLaid(t, "behind one more Put", w, sample.PutText(0xabcf, 16))
}

func TestWritersStandApart(t *testing.T) {
	a, b := NewWriter(), NewWriter()
	a.Put(1, 1)
	b.Put(0, 3)
	wantLaid(t, "one", a, "1")
	wantLaid(t, "the other", b, "000")
}

func TestNilWriter(t *testing.T) {
	var w *Writer
	for _, many := range []int{0, 1, 64, 65, -1} {
		wantErrno(t, "Put", w.Put(1, many), api.ErrNone)
	}
	for _, n := range []uint64{0, greatestCount, greatest} {
		wantErrno(t, "Count", w.Count(n), api.ErrNone)
	}
	if w.Len() != 0 || len(w.Out()) != 0 {
		t.Errorf("Len %d, Out %d", w.Len(), w.Out())
	}
}

// P1.2

func TestGetTakesTheNextBits(t *testing.T) {
	r := NewReader([]byte{0b10101000, 0b11110000})
	wantNumber(t, "Get(3)", r.Get(3), 5)
	wantNumber(t, "Get(2)", r.Get(2), 1)
	wantNumber(t, "Get(0)", r.Get(0), 0)
	wantNumber(t, "Get(5)", r.Get(5), 3)
	wantReader(t, "in the second byte", r, 6, api.ErrTail)
	wantNumber(t, "Get(6)", r.Get(6), 0b110000)
	wantReader(t, "at the end", r, 0, api.OK)
	wantNumber(t, "Get(0) at the end", r.Get(0), 0)
	wantReader(t, "behind Get(0) at the end", r, 0, api.OK)
}

func TestGetOfAWholeWord(t *testing.T) {
	for lead := range 8 {
		text := strings.Repeat("0", lead) + sample.PutText(0x8123456789abcdef, 64)
		r := NewReader(sample.BytesOf(text))
		wantNumber(t, "lead", r.Get(lead), 0)
		wantNumber(t, "Get(64)", r.Get(64), 0x8123456789abcdef)
		wantReader(t, "behind Get(64)", r, (8-lead)%8, api.OK)
	}
}

func TestGetRefusesManyThatMayNotBe(t *testing.T) {
	for _, many := range []int{-1, 65, -64, 1000, math.MinInt, math.MaxInt} {
		for _, b := range [][]byte{nil, {0xff}, slices.Repeat([]byte{0xff}, 9)} {
			r := NewReader(b)
			wantNumber(t, "Get", r.Get(many), 0)
			wantReader(t, "Get("+strconv.Itoa(many)+")", r, 8*len(b), api.ErrArg)
		}
	}
}

func TestGetOfMoreThanIsLeft(t *testing.T) {
	r := NewReader([]byte{0xff})
	wantNumber(t, "Get(5)", r.Get(5), 31)
	wantNumber(t, "Get(4) of 3", r.Get(4), 0)
	wantReader(t, "Get(4) of 3", r, 3, api.ErrShort)

	r = NewReader(slices.Repeat([]byte{0xff}, 8))
	wantNumber(t, "Get(1)", r.Get(1), 1)
	wantNumber(t, "Get(64) of 63", r.Get(64), 0)
	wantReader(t, "Get(64) of 63", r, 63, api.ErrShort)

	r = NewReader(nil)
	wantNumber(t, "Get(1) of none", r.Get(1), 0)
	wantReader(t, "Get(1) of none", r, 0, api.ErrShort)
}

func TestCountIsTaken(t *testing.T) {
	for _, n := range sample.Counts() {
		for _, lead := range []int{0, 3, 7} {
			text := strings.Repeat("1", lead) + sample.CountText(n)
			b := sample.BytesOf(text)
			r := NewReader(b)
			r.Get(lead)
			what := "Count of " + strconv.FormatUint(n, 10)
			wantNumber(t, what, r.Count(), n)
			wantReader(t, what, r, 8*len(b)-len(text), api.OK)
		}
	}
}

func TestCountWithZerosAheadOfTheFirstOne(t *testing.T) {
	for _, x := range []struct {
		what        string
		zeros, tail int
		end         api.Errno
	}{
		{"63 ahead of a whole count", 63, 63, api.OK},
		{"63 ahead of one bit less", 63, 62, api.ErrShort},
		{"64 ahead of a whole count", 64, 64, api.ErrLong},
		{"64 ahead of the last bit", 64, 0, api.ErrLong},
		{"65 ahead of a whole count", 65, 65, api.ErrLong},
		{"200 ahead of a whole count", 200, 200, api.ErrLong},
		{"1 ahead of the last bit", 1, 0, api.ErrShort},
		{"7 ahead of the last bit", 7, 0, api.ErrShort},
	} {
		text := strings.Repeat("0", x.zeros) + "1" + strings.Repeat("1", x.tail)
		// Bits 1 are taken first, so that the text ends with its bytes.
		lead := (8 - len(text)%8) % 8
		r := NewReader(sample.BytesOf(strings.Repeat("1", lead) + text))
		r.Get(lead)
		n, left := r.Count(), len(text)
		if x.end == api.OK {
			wantNumber(t, x.what, n, greatestCount)
			left = 0
		} else {
			wantNumber(t, x.what, n, 0)
		}
		wantReader(t, x.what, r, left, x.end)
	}
}

func TestCountWithZerosAheadOfTheEnd(t *testing.T) {
	for zeros := range 130 {
		lead := (8 - zeros%8) % 8
		r := NewReader(sample.BytesOf(strings.Repeat("1", lead) + strings.Repeat("0", zeros)))
		r.Get(lead)
		what := strconv.Itoa(zeros) + " bits 0 ahead of the end"
		end := api.ErrShort
		if zeros > 63 {
			end = api.ErrLong
		}
		wantNumber(t, what, r.Count(), 0)
		wantReader(t, what, r, zeros, end)
	}
}

func TestTheFirstFaultStays(t *testing.T) {
	faults := []struct {
		what string
		do   func(r *Reader) uint64
		end  api.Errno
	}{
		{"Get(65)", func(r *Reader) uint64 { return r.Get(65) }, api.ErrArg},
		{"Get(-1)", func(r *Reader) uint64 { return r.Get(-1) }, api.ErrArg},
		{"Get(64)", func(r *Reader) uint64 { return r.Get(64) }, api.ErrShort},
		{"Count", (*Reader).Count, api.ErrShort},
	}
	for _, first := range faults {
		// Behind the first bit stand eight bits 0, a 1 and six more: no whole count, and fewer than 64 bits.
		r := NewReader([]byte{0b10000000, 0b01000000})
		wantNumber(t, "ahead of a fault", r.Get(1), 1)
		wantNumber(t, first.what, first.do(r), 0)
		wantReader(t, first.what, r, 15, first.end)
		for _, later := range faults {
			what := first.what + ", then " + later.what
			wantNumber(t, what, later.do(r), 0)
			wantReader(t, what, r, 15, first.end)
		}
		for many := range 16 {
			wantNumber(t, first.what+", then Get", r.Get(many), 0)
			wantReader(t, first.what+", then Get", r, 15, first.end)
		}
	}
}

func TestAFaultOfCountStaysAheadOfWhatCouldBeTaken(t *testing.T) {
	r := NewReader(make([]byte, 9))
	wantNumber(t, "Count", r.Count(), 0)
	wantNumber(t, "Get(64)", r.Get(64), 0)
	wantNumber(t, "Get(100)", r.Get(100), 0)
	wantReader(t, "72 bits 0", r, 72, api.ErrLong)

	r = NewReader([]byte{0xff, 0xff})
	wantNumber(t, "Get(17)", r.Get(17), 0)
	wantNumber(t, "Get(8)", r.Get(8), 0)
	wantNumber(t, "Count", r.Count(), 0)
	wantReader(t, "16 bits 1", r, 16, api.ErrShort)
}

func TestReaderKeepsTheBytesAsTheyWere(t *testing.T) {
	room := []byte{0b01000000, 0b11000000, 0xff}
	b := room[:2]
	r := NewReader(b)
	b[0], b[1] = 0, 0
	wantNumber(t, "Count", r.Count(), 1)
	wantNumber(t, "Get(5)", r.Get(5), 0)
	wantNumber(t, "Get(8)", r.Get(8), 0b11000000)
	wantReader(t, "at the list's length", r, 0, api.OK)
	if !slices.Equal(room, []byte{0, 0, 0xff}) {
		t.Errorf("what was handed in was changed: %x", room)
	}
}

func TestReadersOfOneListStandApart(t *testing.T) {
	b := []byte{0xa5}
	one, other := NewReader(b), NewReader(b)
	wantNumber(t, "one", one.Get(4), 10)
	wantNumber(t, "the other", other.Get(8), 0xa5)
	wantNumber(t, "one, on", one.Get(4), 5)
	if b[0] != 0xa5 {
		t.Errorf("what was handed in was changed: %x", b)
	}
}

// P1.3

func TestLeftGoesDown(t *testing.T) {
	r := NewReader(make([]byte, 3))
	for left := 24; left > 0; left-- {
		if r.Left() != left {
			t.Fatalf("Left %d, want %d", r.Left(), left)
		}
		r.Get(1)
	}
	wantReader(t, "at the end", r, 0, api.OK)
}

func TestEndOfWhatIsLeft(t *testing.T) {
	for _, x := range []struct {
		text  string
		taken int
		end   api.Errno
	}{
		{"", 0, api.OK},
		{"00000000", 0, api.ErrTail},
		{"00000000", 1, api.OK},
		{"10000000", 1, api.OK},
		{"11000000", 1, api.ErrTail},
		{"10000001", 1, api.ErrTail},
		{"11111111", 7, api.ErrTail},
		{"11111110", 7, api.OK},
		{"11111111", 8, api.OK},
		{"1111111100000000", 8, api.ErrTail},
		{"1111111100000000", 9, api.OK},
		{"1111111100000000", 7, api.ErrTail},
		{strings.Repeat("0", 160), 0, api.ErrTail},
		{strings.Repeat("0", 160), 16, api.ErrTail},
	} {
		r := NewReader(sample.BytesOf(x.text))
		r.Get(x.taken)
		what := x.text + " behind " + strconv.Itoa(x.taken)
		wantReader(t, what, r, len(x.text)-x.taken, x.end)
	}
}

func TestEndIsNoFault(t *testing.T) {
	r := NewReader([]byte{0b00101000})
	wantReader(t, "ahead", r, 8, api.ErrTail)
	wantReader(t, "once more", r, 8, api.ErrTail)
	wantNumber(t, "Count behind End", r.Count(), 4)
	wantReader(t, "behind", r, 3, api.OK)
}

func TestNilReader(t *testing.T) {
	var r *Reader
	for _, many := range []int{0, 1, 64, 65, -1} {
		wantNumber(t, "Get", r.Get(many), 0)
	}
	wantNumber(t, "Count", r.Count(), 0)
	wantReader(t, "nil", r, 0, api.OK)
}

func TestReaderOfNothing(t *testing.T) {
	for _, r := range []*Reader{NewReader(nil), NewReader([]byte{}), {}} {
		wantNumber(t, "Get(0)", r.Get(0), 0)
		wantReader(t, "nothing", r, 0, api.OK)
		wantNumber(t, "Count", r.Count(), 0)
		wantReader(t, "Count of nothing", r, 0, api.ErrShort)
	}
}

// P1.4

func TestWhatWasLaidIsTakenAgain(t *testing.T) {
	all := append(numbers(400), sample.Counts()...)
	for shift := range 65 {
		w := NewWriter()
		for i, n := range all {
			if i%2 == 0 {
				w.Count(min(n, greatestCount))
			} else {
				w.Put(n, (i+shift)%65)
			}
		}
		r := NewReader(w.Out())
		for i, n := range all {
			if i%2 == 0 {
				wantNumber(t, "Count", r.Count(), min(n, greatestCount))
			} else {
				many := (i + shift) % 65
				lowest, _ := strconv.ParseUint("0"+sample.PutText(n, many), 2, 64)
				wantNumber(t, "Get", r.Get(many), lowest)
			}
		}
		wantReader(t, "all taken", r, 8*len(w.Out())-w.Len(), api.OK)
	}
}

func TestAsMuchAsMayBeLaidIsTakenAgain(t *testing.T) {
	r := NewReader(full(t, 0).Out())
	for r.Left() > 0 {
		if r.Get(64) != greatest {
			t.Fatalf("with %d left", r.Left())
		}
	}
	wantReader(t, "all taken", r, 0, api.OK)
}

// P1.5

func TestHowManyBitsACountNeeds(t *testing.T) {
	for _, n := range sample.Counts() {
		w := NewWriter()
		w.Count(n)
		more := len(strconv.FormatUint(n+1, 2)) - 1
		if w.Len() != 1+2*more {
			t.Errorf("Count(%d): %d bits, want %d", n, w.Len(), 1+2*more)
		}
	}
}

func TestNoCountIsTheBeginningOfAnother(t *testing.T) {
	seen := map[uint64]bool{}
	var texts []string
	for _, n := range sample.Counts() {
		if seen[n] {
			continue
		}
		seen[n] = true
		w := NewWriter()
		w.Count(n)
		text := ""
		for _, b := range w.Out() {
			text += sample.PutText(uint64(b), 8)
		}
		texts = append(texts, text[:w.Len()])
	}
	// In this order a text that another one begins with would stand ahead of one that begins with it.
	sort.Strings(texts)
	for i := 1; i < len(texts); i++ {
		if strings.HasPrefix(texts[i], texts[i-1]) {
			t.Errorf("%s begins with %s", texts[i], texts[i-1])
		}
	}
}

func TestTheSameCallsLeaveTheSameBytes(t *testing.T) {
	once := func() []byte {
		w := NewWriter()
		for i, n := range numbers(200) {
			w.Put(n, i%70-2)
			w.Count(n)
		}
		return w.Out()
	}
	if !slices.Equal(once(), once()) {
		t.Error("two writers that were told the same differ")
	}
}
