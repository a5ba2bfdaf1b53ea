package check

import (
	"bytes"
	"slices"
	"strings"
	"testing"

	"carfax/api"
	"carfax/sample"
)

// slowSum works the sum out on a list of bits, one by one, as P2.1 tells it.
func slowSum(b []byte) uint16 {
	register := slices.Repeat([]int{1}, 16)
	for _, x := range b {
		for i := range 8 {
			register[i] ^= int(x >> (7 - i) & 1)
		}
		for range 8 {
			out := register[0]
			register = append(register[1:], 0)
			// 1021 in sixteens: 0001 0000 0010 0001.
			for _, i := range []int{3, 10, 15} {
				register[i] ^= out
			}
		}
	}
	var sum uint16
	for _, bit := range register {
		sum = sum*2 + uint16(bit)
	}
	return sum
}

// slowFrame takes any bytes, also more than may be framed, and any number ahead of them.
func slowFrame(number int, b []byte) []byte {
	f := append([]byte{byte(number / 256), byte(number % 256)}, b...)
	sum := slowSum(f)
	return append(f, byte(sum/256), byte(sum%256))
}

func sizes() []int {
	return []int{0, 1, 2, 3, 4, 7, 8, 31, 199, 200, 254, 255, 256, 257, 511, 512, 998, 999, 1000}
}

func framed(t *testing.T, b []byte) []byte {
	t.Helper()
	f, e := Frame(b)
	if e != api.OK {
		t.Fatalf("Frame of %d bytes: error %d", len(b), e)
	}
	return f
}

func wantOpened(t *testing.T, what string, f, want []byte) {
	t.Helper()
	if b, ok := Open(f); !ok || !bytes.Equal(b, want) {
		t.Errorf("%s: Open %v %v, want %v", what, b, ok, want)
	}
}

func wantNoFrame(t *testing.T, what string, f []byte) {
	t.Helper()
	if b, ok := Open(f); ok || len(b) != 0 {
		t.Errorf("%s: Open %v %v of %v", what, b, ok, f)
	}
}

func wantScanned(t *testing.T, what string, b []byte, want [][]byte, many int) {
	t.Helper()
	got, n := Scan(b)
	if n != many || !slices.EqualFunc(got, want, bytes.Equal) {
		t.Errorf("%s: Scan %v %d, want %v %d", what, got, n, want, many)
	}
}

// P2.1

func TestSumOfKnownBytes(t *testing.T) {
	for _, x := range []struct {
		b   string
		sum uint16
	}{
		{"", 0xFFFF},
		{"123456789", 0x29B1},
		{"A", 0xB915},
		{"\x00\x00", 0x1D0F},
		{"\xff\xff", 0},
		{"\xff\xff\x00\x00\x00", 0},
	} {
		if got := Sum([]byte(x.b)); got != x.sum {
			t.Errorf("Sum(%q) = %04X, want %04X", x.b, got, x.sum)
		}
	}
	if Sum(nil) != 0xFFFF {
		t.Errorf("Sum of nil: %04X", Sum(nil))
	}
}

func TestSumOfOneAndTwoBytes(t *testing.T) {
	for i := range 1 << 16 {
		b := []byte{byte(i >> 8), byte(i)}
		if i < 256 && Sum(b[1:]) != slowSum(b[1:]) {
			t.Fatalf("Sum(%v) = %04X", b[1:], Sum(b[1:]))
		}
		if Sum(b) != slowSum(b) {
			t.Fatalf("Sum(%v) = %04X", b, Sum(b))
		}
	}
}

func TestSumOfMoreThanMayBeFramed(t *testing.T) {
	for _, many := range append(sizes(), 1001, 5000, 65536, 70000) {
		b := sample.Bytes(many, many)
		if Sum(b) != slowSum(b) {
			t.Errorf("Sum of %d bytes: %04X, want %04X", many, Sum(b), slowSum(b))
		}
	}
}

// P2.2

func TestFrameOfNoBytes(t *testing.T) {
	for _, b := range [][]byte{nil, {}} {
		f, e := Frame(b)
		if e != api.OK || !bytes.Equal(f, []byte{0, 0, 29, 15}) {
			t.Errorf("Frame of no bytes: %v, error %d", f, e)
		}
	}
	wantOpened(t, "no bytes", []byte{0, 0, 29, 15}, nil)
}

func TestFrameOfSomeBytes(t *testing.T) {
	for _, many := range sizes() {
		b := sample.Bytes(many, 1)
		if f := framed(t, b); !bytes.Equal(f, slowFrame(many, b)) {
			t.Errorf("Frame of %d bytes: %v", many, f)
		}
	}
}

func TestFrameOfMoreThanMayBe(t *testing.T) {
	for _, many := range []int{1001, 1002, 65535, 65536, 65537, 66000, 1 << 20} {
		if f, e := Frame(make([]byte, many)); e != api.ErrLong || len(f) != 0 {
			t.Errorf("Frame of %d bytes: %d bytes, error %d", many, len(f), e)
		}
	}
}

func TestOpenOfMoreThanMayBe(t *testing.T) {
	wantOpened(t, "1000 bytes", slowFrame(1000, sample.Bytes(1000, 2)), sample.Bytes(1000, 2))
	for _, many := range []int{1001, 1002, 5000, 65535, 65536, 65537} {
		wantNoFrame(t, "more than 1000 bytes", slowFrame(many%65536, sample.Bytes(many, 2)))
	}
}

func TestOpenOfAnotherNumber(t *testing.T) {
	b := sample.Bytes(300, 3)
	for _, number := range []int{0, 44, 296, 298, 299, 301, 302, 304, 556, 65535} {
		wantNoFrame(t, "a number that is not how many there are", slowFrame(number, b))
	}
	// As if the other byte of the number were the higher one.
	f := append([]byte{2, 0}, "ab"...)
	sum := slowSum(f)
	wantNoFrame(t, "a number that stands the other way", append(f, byte(sum>>8), byte(sum)))
}

func TestOpenOfAnotherSum(t *testing.T) {
	for _, b := range [][]byte{nil, []byte("some bytes")} {
		f := framed(t, b)
		end := len(f) - 2
		right := int(f[end])<<8 | int(f[end+1])
		for sum := range 1 << 16 {
			f[end], f[end+1] = byte(sum>>8), byte(sum)
			if sum == right {
				wantOpened(t, "its sum", f, b)
			} else {
				wantNoFrame(t, "another sum", f)
			}
		}
	}
}

func TestOpenOfTooFewBytes(t *testing.T) {
	wantNoFrame(t, "nil", nil)
	for many := range 4 {
		wantNoFrame(t, "too few bytes 0", make([]byte, many))
		wantNoFrame(t, "too few bytes 255", slices.Repeat([]byte{255}, many))
		wantNoFrame(t, "a frame of no bytes, cut", []byte{0, 0, 29, 15}[:many])
	}
}

func TestOpenOfBytesBehindAFrame(t *testing.T) {
	f := framed(t, []byte("some bytes"))
	wantNoFrame(t, "a byte behind", append(slices.Clone(f), 0))
	wantNoFrame(t, "twice", append(slices.Clone(f), f...))
	// The sum of a frame with its own sum is 0, and so bytes 0 behind it leave the sum right.
	wantNoFrame(t, "two bytes 0 behind", append(slices.Clone(f), 0, 0))
}

// P2.3

func TestScanOfFrames(t *testing.T) {
	wantScanned(t, "nil", nil, nil, 0)
	wantScanned(t, "empty", []byte{}, nil, 0)
	wantScanned(t, "no bytes, and one byte 0", []byte{0, 0, 29, 15, 0}, [][]byte{{}}, 4)
	var all []byte
	var want [][]byte
	for i, many := range sizes() {
		b := sample.Bytes(many, i)
		all, want = append(all, framed(t, b)...), append(want, b)
		wantScanned(t, "frames", all, want, len(all))
	}
}

func TestScanUpToTheFirstThatIsNone(t *testing.T) {
	one, two, three := framed(t, []byte("one")), framed(t, nil), framed(t, sample.Bytes(700, 4))
	all := slices.Concat(one, two, three)
	for i := range all {
		spoilt := slices.Clone(all)
		spoilt[i] ^= 1
		want, many := [][]byte{[]byte("one"), {}}, len(one)+len(two)
		switch {
		case i < len(one):
			want, many = nil, 0
		case i < len(one)+len(two):
			want, many = want[:1], len(one)
		}
		wantScanned(t, "spoilt", spoilt, want, many)
	}
}

func TestScanOfWhatIsCutOff(t *testing.T) {
	parts := [][]byte{[]byte("one"), nil, sample.Bytes(300, 5), []byte("x")}
	var all []byte
	ends := []int{0}
	for _, b := range parts {
		all = append(all, framed(t, b)...)
		ends = append(ends, len(all))
	}
	for i := range len(all) + 1 {
		whole := 0
		for whole+1 < len(ends) && ends[whole+1] <= i {
			whole++
		}
		// What was cut off still stands in the room behind.
		wantScanned(t, "cut off", all[:i], parts[:whole], ends[whole])
	}
}

func TestScanOfMoreThanMayBe(t *testing.T) {
	small := framed(t, []byte("small"))
	for _, many := range []int{1001, 65535} {
		long := slowFrame(many, sample.Bytes(many, 6))
		wantScanned(t, "too long", slices.Concat(long, small), nil, 0)
		wantScanned(t, "behind a frame", slices.Concat(small, long, small), [][]byte{[]byte("small")}, len(small))
	}
	longest := slowFrame(1000, sample.Bytes(1000, 6))
	wantScanned(t, "as long as may be", slices.Concat(longest, small), [][]byte{sample.Bytes(1000, 6), []byte("small")}, len(longest)+len(small))
}

func TestScanSkipsNothing(t *testing.T) {
	f := framed(t, []byte("some bytes"))
	for _, lead := range [][]byte{{0}, {1}, {0, 0}, {0, 0, 0, 0}, {255, 255, 255, 255}} {
		wantScanned(t, "bytes ahead of a frame", append(lead, f...), nil, 0)
	}
}

func TestScanOfManyFrames(t *testing.T) {
	const many = 1 << 16
	all := slices.Repeat([]byte{0, 0, 29, 15}, many)
	got, n := Scan(all)
	if len(got) != many || n != len(all) {
		t.Errorf("%d frames, %d bytes", len(got), n)
	}
}

// P2.4

func TestWhatWasFramedIsOpened(t *testing.T) {
	for many := range api.MaxFrame + 1 {
		b := sample.Bytes(many, 7)
		wantOpened(t, "framed", framed(t, b), b)
	}
	for _, b := range [][]byte{make([]byte, 1000), slices.Repeat([]byte{255}, 1000), framed(t, sample.Bytes(996, 8))} {
		wantOpened(t, "framed", framed(t, b), b)
	}
}

func TestWhatIsOpenedWasFramedSo(t *testing.T) {
	opened := 0
	for i := range 1 << 16 {
		for _, f := range [][]byte{
			{0, 0, byte(i >> 8), byte(i)},
			{byte(i >> 8), byte(i), 29, 15},
			{0, 1, 'x', byte(i >> 8), byte(i)},
			{0, byte(i >> 8), byte(i), 185, 21},
		} {
			b, ok := Open(f)
			if !ok {
				continue
			}
			opened++
			if !bytes.Equal(framed(t, b), f) {
				t.Errorf("Open(%v) = %v, that is framed otherwise", f, b)
			}
		}
	}
	if opened < 3 {
		t.Errorf("%d were opened", opened)
	}
}

func TestNoBeginningOfAFrameIsOne(t *testing.T) {
	zeros := strings.Repeat("\x00", 1000)
	// A frame stands within a frame, and bytes 0, with which sums may stay as they are.
	inside := string(framed(t, []byte("inside")))
	for _, b := range []string{"", "a", "some bytes", inside, inside + inside, zeros, "\xff\xff" + zeros[:500], string(sample.Bytes(1000, 9))} {
		f := framed(t, []byte(b))
		for i := range f {
			wantNoFrame(t, "a beginning", f[:i])
		}
	}
}

// P2.5

func TestWhateverStandsBehindFrames(t *testing.T) {
	inside := framed(t, []byte("in"))
	parts := [][]byte{[]byte("one"), nil, inside, sample.Bytes(1000, 10), nil}
	var all []byte
	for _, b := range parts {
		all = append(all, framed(t, b)...)
	}
	for _, behind := range [][]byte{
		nil, {0}, {0, 0}, {0, 0, 29}, {0, 0, 29, 14}, {0, 9, 1}, {255}, {255, 255}, {255, 255, 0, 0},
		make([]byte, 5000), slices.Repeat([]byte{255}, 70000), sample.Bytes(3000, 11),
		append([]byte{0}, inside...), inside[:len(inside)-1], inside[1:],
	} {
		wantScanned(t, "with bytes behind", slices.Concat(all, behind), parts, len(all))
	}
	for i := range 1 << 16 {
		behind := []byte{byte(i >> 8), byte(i), 29, 15}
		if i != 0 {
			wantScanned(t, "behind one", slices.Concat(inside, behind), [][]byte{[]byte("in")}, len(inside))
		}
	}
}

// P2.6

// spoil changes bits of f from a place on: those of a pattern, the highest bit first.
func spoil(f []byte, at int, pattern uint16) []byte {
	g := slices.Clone(f)
	for i := range 16 {
		if pattern>>(15-i)&1 == 1 {
			g[(at+i)/8] ^= 0x80 >> ((at + i) % 8)
		}
	}
	return g
}

func fits(f []byte, at int, pattern uint16) bool {
	for i := range 16 {
		if pattern>>(15-i)&1 == 1 && at+i >= 8*len(f) {
			return false
		}
	}
	return true
}

func TestAllRunsOfOtherBitsInShortFrames(t *testing.T) {
	for _, b := range []string{"", "a"} {
		f := framed(t, []byte(b))
		for at := range 8 * len(f) {
			for low := range 1 << 15 {
				pattern := 0x8000 | uint16(low)
				if !fits(f, at, pattern) {
					continue
				}
				if _, ok := Open(spoil(f, at, pattern)); ok {
					t.Fatalf("Open of %v, with %04X at bit %d", f, pattern, at)
				}
			}
		}
	}
}

func TestRunsOfOtherBitsInLongerFrames(t *testing.T) {
	patterns := []uint16{0x8000, 0xC000, 0xA000, 0xFF00, 0xFFFF, 0x8001, 0x8811, 0x8810, 0x9021, 0xAAAA, 0xFFFE, 0x8080}
	for _, b := range [][]byte{[]byte("some bytes"), make([]byte, 60), sample.Bytes(300, 12), sample.Bytes(1000, 13)} {
		f := framed(t, b)
		for at := range 8 * len(f) {
			// All of them at the number and at the sum, one or another between.
			tried := patterns
			if at > 40 && at < 8*len(f)-40 {
				tried = patterns[at%len(patterns):][:1]
			}
			for _, pattern := range tried {
				if fits(f, at, pattern) {
					wantNoFrame(t, "a run of other bits", spoil(f, at, pattern))
				}
			}
		}
	}
}

// Rules 4 to 6

func TestWhatIsHandedInStays(t *testing.T) {
	room := slices.Concat(framed(t, []byte("one")), framed(t, []byte("two")))
	before := slices.Clone(room)
	half := len(room) / 2
	Sum(room[:half])
	Frame(room[:half])
	Open(room[:half])
	Scan(room[:half])
	Scan(room)
	if !bytes.Equal(room, before) {
		t.Errorf("what was handed in was changed: %v, that was %v", room, before)
	}
}

func TestAnswersAreTheCallers(t *testing.T) {
	b := []byte("some bytes")
	f, again := framed(t, b), framed(t, b)
	opened, _ := Open(f)
	other, _ := Open(f)
	both := slices.Concat(f, f)
	scanned, _ := Scan(both)
	for _, x := range [][]byte{b, f, both, opened, scanned[0]} {
		clear(x)
	}
	if !bytes.Equal(other, []byte("some bytes")) || !bytes.Equal(scanned[1], other) {
		t.Errorf("answers share memory: %q, %q", other, scanned[1])
	}
	wantOpened(t, "another frame", again, other)
}

func TestThereIsNoRoomBehindWhatIsOpened(t *testing.T) {
	for _, many := range sizes() {
		f := framed(t, sample.Bytes(many, 14))
		opened, _ := Open(f)
		scanned, _ := Scan(slices.Concat(f, f))
		for _, x := range append(scanned, opened) {
			if len(x) != many || cap(x) != many {
				t.Errorf("%d bytes: len %d, cap %d", many, len(x), cap(x))
			}
		}
	}
}

func TestWhatIsBehindAListIsNotRead(t *testing.T) {
	for _, behind := range []byte{0, 255} {
		room := append([]byte("some bytes"), behind, behind, behind, behind)
		f := framed(t, room[:10])
		if !bytes.Equal(f, slowFrame(10, []byte("some bytes"))) {
			t.Errorf("Frame: %v", f)
		}
		room = append(f, behind, behind)
		wantOpened(t, "room behind", room[:14], []byte("some bytes"))
		wantScanned(t, "room behind", room[:14], [][]byte{[]byte("some bytes")}, 14)
	}
}

func TestTheSameCallsAnswerTheSame(t *testing.T) {
	b := sample.Bytes(500, 15)
	for range 3 {
		if Sum(b) != slowSum(b) || !bytes.Equal(framed(t, b), slowFrame(500, b)) {
			t.Error("a call hangs on those ahead of it")
		}
		Frame(make([]byte, 1001))
		Open(b)
		Scan(b)
	}
}

func FuzzOpenAndScan(f *testing.F) {
	f.Add([]byte{})
	f.Add([]byte{0, 0, 29, 15, 0})
	f.Add(slices.Concat(slowFrame(3, []byte("one")), slowFrame(0, nil)))
	f.Add(slowFrame(1001, sample.Bytes(1001, 16)))
	f.Fuzz(func(t *testing.T, b []byte) {
		if inside, ok := Open(b); ok {
			if again, e := Frame(inside); e != api.OK || !bytes.Equal(again, b) {
				t.Errorf("Open(%v) = %v", b, inside)
			}
		}
		all, n := Scan(b)
		var laid []byte
		for _, inside := range all {
			again, _ := Frame(inside)
			laid = append(laid, again...)
		}
		if n != len(laid) || !bytes.Equal(laid, b[:n]) {
			t.Errorf("Scan(%v) = %v, %d", b, all, n)
		}
		for end := n; end <= len(b); end++ {
			if _, ok := Open(b[n:end]); ok {
				t.Errorf("Scan(%v) left a frame at %d", b, n)
			}
		}
	})
}
