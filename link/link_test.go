package link

import (
	"bytes"
	"math"
	"slices"
	"strconv"
	"strings"
	"testing"

	"carfax/api"
	"carfax/check"
	"carfax/net"
	"carfax/sample"
)

// The tests hold packets against texts of 0 and 1 in a frame of layer 2, and senders and receivers against lists of all that was told, and of all that was heard.

const (
	greatest = uint64(math.MaxUint64)
	// The greatest number that a packet has.
	greatestN = greatest - 1
)

func told(n uint64, data string) api.Packet { return api.Packet{N: n, Data: []byte(data)} }

func heard(n uint64) api.Packet { return api.Packet{Heard: true, N: n} }

// content is what stands in a packet's frame, as a text of 0 and 1, also of one that Lay refuses because of its Data.
func content(p api.Packet) string {
	text := "0"
	if p.Heard {
		text = "1"
	}
	text += sample.CountText(p.N)
	for _, x := range p.Data {
		text += sample.PutText(uint64(x), 8)
	}
	return text
}

func framed(t *testing.T, b []byte) []byte {
	t.Helper()
	f, e := check.Frame(b)
	if e != api.OK {
		t.Fatalf("Frame of %d bytes: error %d", len(b), e)
	}
	return f
}

func slowLay(t *testing.T, p api.Packet) []byte {
	t.Helper()
	return framed(t, sample.BytesOf(content(p)))
}

func same(p, q api.Packet) bool {
	return p.Heard == q.Heard && p.N == q.N && bytes.Equal(p.Data, q.Data)
}

func wantTaken(t *testing.T, b []byte, want api.Packet) {
	t.Helper()
	if p, e := Take(b); e != api.OK || !same(p, want) {
		t.Errorf("Take is %v, error %d, want %v", p, e, want)
	}
}

func wantNoPacket(t *testing.T, what string, b []byte) {
	t.Helper()
	if p, e := Take(b); e != api.ErrPacket || !same(p, api.Packet{}) {
		t.Errorf("%s: Take is %v, error %d", what, p, e)
	}
}

func wantTell(t *testing.T, s *Sender, data []byte, want api.Errno) {
	t.Helper()
	if e := s.Tell(data); e != want {
		t.Errorf("Tell of %d bytes: error %d, want %d", len(data), e, want)
	}
}

// wantTells asks for what is to be told; of no number it is nothing.
func wantTells(t *testing.T, s *Sender, n uint64, data string) {
	t.Helper()
	b, is := s.Packet()
	switch {
	case n == 0 && (is || len(b) != 0):
		t.Errorf("Packet is %v, %v, want none", b, is)
	case n != 0 && (!is || !bytes.Equal(b, slowLay(t, told(n, data)))):
		t.Errorf("Packet is %v, %v, want that of %d and %q", b, is, n, data)
	}
}

func wantTold(t *testing.T, s *Sender, want uint64) {
	t.Helper()
	if n := s.Told(); n != want {
		t.Errorf("Told is %d, want %d", n, want)
	}
}

func wantSenderHears(t *testing.T, what string, s *Sender, b []byte, want bool) {
	t.Helper()
	if is := s.Hear(b); is != want {
		t.Errorf("%s: the sender's Hear is %v, want %v", what, is, want)
	}
}

func wantHeard(t *testing.T, r *Receiver, want uint64) {
	t.Helper()
	if n := r.Heard(); n != want {
		t.Errorf("Heard is %d, want %d", n, want)
	}
}

// wantFresh asks that a packet that is told is heard now.
func wantFresh(t *testing.T, r *Receiver, p api.Packet) {
	t.Helper()
	data, fresh, back := r.Hear(slowLay(t, p))
	if !fresh || !bytes.Equal(data, p.Data) || !bytes.Equal(back, slowLay(t, heard(p.N))) {
		t.Errorf("Hear of %v: %q, %v, %v", p, data, fresh, back)
	}
	wantHeard(t, r, p.N)
}

// wantOld asks that a packet that is told is one that was heard.
func wantOld(t *testing.T, r *Receiver, p api.Packet) {
	t.Helper()
	before := r.Heard()
	data, fresh, back := r.Hear(slowLay(t, p))
	if fresh || len(data) != 0 || !bytes.Equal(back, slowLay(t, heard(p.N))) {
		t.Errorf("Hear of %v: %q, %v, %v", p, data, fresh, back)
	}
	wantHeard(t, r, before)
}

// wantDeaf asks that nothing comes of bytes.
func wantDeaf(t *testing.T, what string, r *Receiver, b []byte) {
	t.Helper()
	before := r.Heard()
	if data, fresh, back := r.Hear(b); fresh || len(data) != 0 || len(back) != 0 {
		t.Errorf("%s: the receiver's Hear is %q, %v, %v", what, data, fresh, back)
	}
	wantHeard(t, r, before)
}

// P14.1

func TestLayOfKnownPackets(t *testing.T) {
	for _, x := range []struct {
		p    api.Packet
		want []byte
	}{
		{api.Packet{}, []byte{0, 1, 0x40, 0xb7, 0x69}},
		{heard(0), []byte{0, 1, 0xc0, 0x26, 0xe1}},
		{heard(1), []byte{0, 1, 0xa0, 0x4a, 0x47}},
		{told(1, "ab"), []byte{0, 3, 0x26, 0x16, 0x20, 0x33, 0x01}},
		{told(4, "\xff"), []byte{0, 2, 0x17, 0xfc, 0x5e, 0xd7}},
		{heard(greatestN), append(append([]byte{0, 16, 0x80, 0, 0, 0, 0, 0, 0, 0}, slices.Repeat([]byte{0xff}, 8)...), 0xf5, 0x3a)},
		{told(greatestN, "\x80\x01"), append(append([]byte{0, 18, 0, 0, 0, 0, 0, 0, 0, 0}, slices.Repeat([]byte{0xff}, 8)...), 0x80, 0x01, 0x3b, 0x94)},
	} {
		if b, e := Lay(x.p); e != api.OK || !bytes.Equal(b, x.want) {
			t.Errorf("Lay of %v is %x, error %d, want %x", x.p, b, e, x.want)
		}
		wantTaken(t, x.want, x.p)
	}
}

func TestLayAndTakeOfEachNumber(t *testing.T) {
	for i, n := range sample.Counts() {
		for _, p := range []api.Packet{heard(n), told(n, ""), {N: n, Data: sample.Bytes(1+i%9, i)}} {
			want := slowLay(t, p)
			if b, e := Lay(p); e != api.OK || !bytes.Equal(b, want) {
				t.Errorf("Lay of %v is %x, error %d, want %x", p, b, e, want)
			}
			wantTaken(t, want, p)
		}
	}
}

func TestLayAndTakeOfEachLength(t *testing.T) {
	for many := range api.MaxData + 1 {
		for _, data := range [][]byte{sample.Bytes(many, many), make([]byte, many), slices.Repeat([]byte{255}, many)} {
			for _, n := range []uint64{0, 1, 6, 7, 62, 127, greatestN} {
				p := api.Packet{N: n, Data: data}
				want := slowLay(t, p)
				if b, e := Lay(p); e != api.OK || !bytes.Equal(b, want) {
					t.Errorf("Lay of %v is %x, error %d, want %x", p, b, e, want)
				}
				wantTaken(t, want, p)
			}
		}
	}
}

func TestDataWithoutBytesIsNone(t *testing.T) {
	for _, kind := range []bool{false, true} {
		nothing, e := Lay(api.Packet{Heard: kind, N: 3})
		empty, f := Lay(api.Packet{Heard: kind, N: 3, Data: []byte{}})
		if e != api.OK || f != api.OK || !bytes.Equal(nothing, empty) {
			t.Errorf("%x, error %d; %x, error %d", nothing, e, empty, f)
		}
	}
}

func TestLayRefuses(t *testing.T) {
	long := make([]byte, 201)
	for _, x := range []struct {
		p    api.Packet
		want api.Errno
	}{
		{api.Packet{Data: long}, api.ErrLong},
		{api.Packet{Data: make([]byte, 1001)}, api.ErrLong},
		{api.Packet{Data: make([]byte, 1<<17)}, api.ErrLong},
		{api.Packet{N: greatest}, api.ErrLong},
		{api.Packet{N: greatest, Data: long}, api.ErrLong},
		{api.Packet{Heard: true, N: greatest}, api.ErrLong},
		{api.Packet{Heard: true, Data: long}, api.ErrLong},
		{api.Packet{Heard: true, N: greatest, Data: []byte("a")}, api.ErrLong},
		{api.Packet{Heard: true, Data: []byte{0}}, api.ErrPacket},
		{api.Packet{Heard: true, N: 7, Data: make([]byte, 200)}, api.ErrPacket},
		{api.Packet{Heard: true, N: greatestN, Data: []byte("a")}, api.ErrPacket},
	} {
		if b, e := Lay(x.p); e != x.want || len(b) != 0 {
			t.Errorf("Lay of %v and %d bytes, %v: %x, error %d, want %d", x.p.N, len(x.p.Data), x.p.Heard, b, e, x.want)
		}
	}
}

// All that has up to two bytes in its frame: it is a packet just where one is laid so.
func TestTakeOfAllShortFrames(t *testing.T) {
	packets := map[string]api.Packet{}
	try := func(p api.Packet) {
		if text := content(p); len(text) <= 16 {
			packets[string(sample.BytesOf(text))] = p
		}
	}
	for n := range uint64(1 << 8) {
		try(heard(n))
		try(told(n, ""))
		for x := range 1 << 8 {
			try(told(n, string([]byte{byte(x)})))
		}
	}
	contents := []string{""}
	for x := range 1 << 8 {
		contents = append(contents, string([]byte{byte(x)}))
	}
	for x := range 1 << 16 {
		contents = append(contents, string([]byte{byte(x >> 8), byte(x)}))
	}
	for _, text := range contents {
		if p, is := packets[text]; is {
			wantTaken(t, framed(t, []byte(text)), p)
		} else {
			wantNoPacket(t, strconv.Quote(text), framed(t, []byte(text)))
		}
	}
	if len(packets) < 4000 {
		t.Errorf("%d packets are too few", len(packets))
	}
}

func TestTakeOfWhatIsNoFrame(t *testing.T) {
	wantNoPacket(t, "nil", nil)
	wantNoPacket(t, "no bytes", []byte{})
	for _, p := range []api.Packet{{}, heard(9), told(1, "ab"), told(greatestN, string(make([]byte, 200)))} {
		b := slowLay(t, p)
		for i := range b {
			wantNoPacket(t, "a beginning", b[:i])
			wantNoPacket(t, "an end", b[i+1:])
		}
		wantNoPacket(t, "a byte behind", append(slices.Clone(b), 0))
		wantNoPacket(t, "a byte ahead", append([]byte{0}, b...))
		wantNoPacket(t, "twice", append(slices.Clone(b), b...))
		wantNoPacket(t, "without a frame", sample.BytesOf(content(p)))
		wantNoPacket(t, "with two frames", framed(t, b))
	}
}

func TestTakeOfFramesThatAreNoPackets(t *testing.T) {
	zeros := func(many int) string { return strings.Repeat("0", many) }
	for _, x := range []struct{ what, bits string }{
		{"no bits", ""},
		{"no number, told", "0"},
		{"no number, heard", "1"},
		{"a number that ends too early", "0" + "0000001"},
		{"a number that ends too early, heard", "1" + "000001" + "1"},
		{"a number without a bit 1", zeros(64)},
		{"a number without a bit 1, heard", "1" + zeros(63)},
		{"many bits 0", zeros(8000)},
		{"the number 2^64 - 1, told", "0" + zeros(64) + "1" + zeros(64)},
		{"the number 2^64 - 1, heard", "1" + zeros(64) + "1" + zeros(64)},
		{"bits 1 behind it", content(told(0, "")) + "000001"},
		{"bits 1 behind it, heard", content(heard(0)) + "000001"},
		{"bits 1 behind a number of seven bits, heard", content(heard(7)) + zeros(7) + "1"},
		{"bits 1 behind data", content(told(1, "ab")) + "1"},
		{"bits 1 behind data", content(told(1, "ab")) + "0001"},
		{"a byte 0 behind what was heard", content(heard(0)) + zeros(8)},
		{"two bytes 0 behind what was heard", content(heard(2)) + zeros(16)},
		{"data behind what was heard", content(heard(1)) + sample.PutText('a', 8)},
		{"much data behind what was heard", content(heard(1)) + strings.Repeat("01100001", 200)},
		{"201 bytes", content(told(5, string(make([]byte, 201))))},
		{"201 bytes of the number 0", content(told(0, strings.Repeat("x", 201)))},
		{"201 bytes of a great number", content(told(greatestN, strings.Repeat("x", 201)))},
		{"984 bytes of a great number", content(told(greatestN, strings.Repeat("x", 984)))},
		{"999 bytes", content(told(0, strings.Repeat("x", 999)))},
	} {
		wantNoPacket(t, x.what, framed(t, sample.BytesOf(x.bits)))
	}
}

// Behind the bits of data up to seven bits 0 stand, and eight are one more byte.
func TestBits0UpToAWholeByte(t *testing.T) {
	for _, n := range []uint64{0, 1, 3, 7, 15, 127, 128} {
		p := told(n, "ab")
		b := sample.BytesOf(content(p))
		wantTaken(t, framed(t, b), p)
		more := told(n, "ab\x00")
		wantTaken(t, framed(t, append(b, 0)), more)
		if l, e := Lay(more); e != api.OK || !bytes.Equal(l, framed(t, append(b, 0))) {
			t.Errorf("Lay of %v is %x, error %d", more, l, e)
		}
		wantNoPacket(t, "a byte 0 too many", framed(t, append(sample.BytesOf(content(heard(n))), 0)))
	}
}

// others is bytes of which a run of bits that follow one another are others.
func others(b []byte, at, run int) []byte {
	c := slices.Clone(b)
	for i := at; i < at+run; i++ {
		c[i/8] ^= 0x80 >> (i % 8)
	}
	return c
}

func TestOtherBitsThanWereSent(t *testing.T) {
	for _, x := range []api.Packet{told(6, ""), told(6, "ab"), {N: 6, Data: sample.Bytes(200, 1)}, heard(6)} {
		right := slowLay(t, x)
		s, r := NewSender(5), NewReceiver(5)
		wantTell(t, s, x.Data, api.OK)
		for at := range 8 * len(right) {
			for run := 1; run <= 16 && at+run <= 8*len(right); run++ {
				b := others(right, at, run)
				wantNoPacket(t, "other bits", b)
				wantDeaf(t, "other bits", r, b)
				wantSenderHears(t, "other bits", s, b, false)
			}
		}
		wantTells(t, s, 6, string(x.Data))
		wantTold(t, s, 5)
	}
}

// What is taken is laid so; there is no other way to be a packet.
func FuzzTake(f *testing.F) {
	for _, b := range [][]byte{nil, {64}, {160}, {0x26, 0x16, 0x20}, sample.Bytes(30, 3), make([]byte, 30), sample.Bytes(1000, 4)} {
		f.Add(b)
	}
	f.Fuzz(func(t *testing.T, b []byte) {
		inside, _ := check.Frame(b)
		for _, x := range [][]byte{b, inside} {
			p, e := Take(x)
			switch laid, f := Lay(p); {
			case e != api.OK && (e != api.ErrPacket || !same(p, api.Packet{})):
				t.Errorf("Take of %x is %v, error %d", x, p, e)
			case e == api.OK && (f != api.OK || !bytes.Equal(laid, x)):
				t.Errorf("Take of %x is %v, that is laid as %x", x, p, laid)
			}
		}
	})
}

// P14.2

func TestNewSenderHasNothingToTell(t *testing.T) {
	for _, n := range []uint64{0, 1, 5, 1 << 32, greatestN - 1, greatestN, greatest} {
		s := NewSender(n)
		wantTold(t, s, n)
		wantTells(t, s, 0, "")
		for _, m := range []uint64{0, n - 1, n, n + 1, n + 2} {
			if m != greatest {
				wantSenderHears(t, "nothing is to be told", s, slowLay(t, heard(m)), false)
			}
		}
		wantTold(t, s, n)
	}
}

func TestTheSameIsToBeToldTillItWasHeard(t *testing.T) {
	s := NewSender(5)
	wantTell(t, s, []byte("ab"), api.OK)
	for range 3 {
		wantTells(t, s, 6, "ab")
		wantTold(t, s, 5)
		wantTell(t, s, []byte("cd"), api.ErrThere)
	}
	wantSenderHears(t, "it was heard", s, slowLay(t, heard(6)), true)
	wantTells(t, s, 0, "")
	wantTold(t, s, 6)
	wantTell(t, s, []byte("cd"), api.OK)
	wantTells(t, s, 7, "cd")
}

func TestTellOfEachLength(t *testing.T) {
	s := NewSender(0)
	for many := range api.MaxData + 1 {
		b := sample.Bytes(many, 2)
		wantTell(t, s, b, api.OK)
		wantTells(t, s, uint64(many)+1, string(b))
		wantSenderHears(t, "it was heard", s, slowLay(t, heard(uint64(many)+1)), true)
		wantTold(t, s, uint64(many)+1)
	}
	for _, many := range []int{201, 202, 256, 1000, 1001, 1 << 17} {
		wantTell(t, s, make([]byte, many), api.ErrLong)
		wantTells(t, s, 0, "")
		wantTold(t, s, 201)
	}
	wantTell(t, s, []byte("ab"), api.OK)
	wantTells(t, s, 202, "ab")
}

func TestAThingWithoutBytesIsTold(t *testing.T) {
	for _, nothing := range [][]byte{nil, {}} {
		s := NewSender(0)
		wantTell(t, s, nothing, api.OK)
		wantTells(t, s, 1, "")
		wantTell(t, s, nothing, api.ErrThere)
		wantTell(t, s, []byte("a"), api.ErrThere)
		wantSenderHears(t, "it was heard", s, slowLay(t, heard(1)), true)
		wantTells(t, s, 0, "")
		wantTold(t, s, 1)
	}
}

func TestErrThereStandsAheadOfErrLong(t *testing.T) {
	s := NewSender(greatestN - 1)
	wantTell(t, s, []byte("a"), api.OK)
	for _, many := range []int{0, 1, 200, 201, 2000} {
		wantTell(t, s, make([]byte, many), api.ErrThere)
	}
	wantTells(t, s, greatestN, "a")
}

func TestTellAtTheGreatestNumbers(t *testing.T) {
	s := NewSender(greatestN - 2)
	for _, n := range []uint64{greatestN - 1, greatestN} {
		wantTell(t, s, []byte("a"), api.OK)
		wantTells(t, s, n, "a")
		wantSenderHears(t, "it was heard", s, slowLay(t, heard(n)), true)
		wantTold(t, s, n)
	}
	for _, s := range []*Sender{s, NewSender(greatestN), NewSender(greatest)} {
		before := s.Told()
		for _, many := range []int{0, 1, 200, 201} {
			wantTell(t, s, make([]byte, many), api.ErrLong)
		}
		wantTells(t, s, 0, "")
		wantSenderHears(t, "nothing is to be told", s, slowLay(t, heard(0)), false)
		wantSenderHears(t, "nothing is to be told", s, slowLay(t, heard(greatestN)), false)
		wantTold(t, s, before)
	}
}

func TestTheSenderHearsItsNumberAlone(t *testing.T) {
	s := NewSender(300)
	wantTell(t, s, []byte("ab"), api.OK)
	right := slowLay(t, heard(301))
	for n := range uint64(600) {
		if n != 301 {
			wantSenderHears(t, "another number", s, slowLay(t, heard(n)), false)
		}
		wantSenderHears(t, "what is told", s, slowLay(t, told(n, "")), false)
	}
	for _, n := range []uint64{301 + 1<<8, 301 + 1<<16, 301 + 1<<32, greatestN} {
		wantSenderHears(t, "another number", s, slowLay(t, heard(n)), false)
	}
	own, _ := s.Packet()
	for _, x := range []struct {
		what string
		b    []byte
	}{
		{"its own packet", own},
		{"nil", nil},
		{"no bytes", []byte{}},
		{"a beginning", right[:len(right)-1]},
		{"a byte behind", append(slices.Clone(right), 0)},
		{"twice", append(slices.Clone(right), right...)},
		{"without a frame", sample.BytesOf(content(heard(301)))},
		{"a byte 0 behind it", framed(t, append(sample.BytesOf(content(heard(301))), 0))},
		{"data behind it", framed(t, sample.BytesOf(content(heard(301))+"01100001"))},
	} {
		wantSenderHears(t, x.what, s, x.b, false)
	}
	wantTells(t, s, 301, "ab")
	wantTold(t, s, 300)
	wantSenderHears(t, "its number", s, right, true)
	wantSenderHears(t, "its number again", s, right, false)
	wantTold(t, s, 301)
	wantTell(t, s, []byte("cd"), api.OK)
	wantSenderHears(t, "the number of an older thing", s, right, false)
	wantTells(t, s, 302, "cd")
}

func TestNilSender(t *testing.T) {
	var s *Sender
	for _, many := range []int{0, 1, 200, 201, 2000} {
		wantTell(t, s, make([]byte, many), api.ErrNone)
	}
	wantTell(t, s, nil, api.ErrNone)
	wantTells(t, s, 0, "")
	for _, b := range [][]byte{nil, {}, {0}, slowLay(t, heard(0)), slowLay(t, heard(1)), slowLay(t, told(1, "a"))} {
		wantSenderHears(t, "nil", s, b, false)
	}
	wantTold(t, s, 0)
}

func TestTheZeroSenderHasToldNothing(t *testing.T) {
	s := &Sender{}
	wantTells(t, s, 0, "")
	wantTell(t, s, []byte("a"), api.OK)
	wantTells(t, s, 1, "a")
	wantSenderHears(t, "it was heard", s, slowLay(t, heard(1)), true)
	wantTold(t, s, 1)
}

// P14.3

func TestTheReceiverHearsTheNextThing(t *testing.T) {
	for _, from := range []uint64{0, 1, 5, 254, 1 << 32, greatestN - 3} {
		r := NewReceiver(from)
		wantHeard(t, r, from)
		for i, data := range []string{"ab", "", string(sample.Bytes(200, 5))} {
			p := told(from+1+uint64(i), data)
			wantFresh(t, r, p)
			wantOld(t, r, p)
		}
	}
}

func TestTheReceiverHearsNothingTwice(t *testing.T) {
	r := NewReceiver(300)
	for n := uint64(1); n <= 300; n++ {
		wantOld(t, r, told(n, "ab"))
		wantOld(t, r, told(n, ""))
	}
	wantFresh(t, r, told(301, "cd"))
	// What it says has no part in that, only its number.
	wantOld(t, r, told(301, "other"))
	wantOld(t, r, told(1, "cd"))
}

func TestTheReceiverLeapsOverNothing(t *testing.T) {
	for _, from := range []uint64{0, 1, 5, 300} {
		r := NewReceiver(from)
		for _, n := range []uint64{from + 2, from + 3, from + 1 + 1<<8, from + 1 + 1<<16, from + 1 + 1<<32, 1 << 63, greatestN - 1, greatestN} {
			wantDeaf(t, "a number above the next one", r, slowLay(t, told(n, "a")))
		}
		wantFresh(t, r, told(from+1, "a"))
	}
}

func TestTheReceiverHearsNothingOfTheNumber0(t *testing.T) {
	for _, from := range []uint64{0, 1, 5, 1 << 63, greatestN - 1, greatestN, greatest} {
		r := NewReceiver(from)
		wantDeaf(t, "the number 0", r, slowLay(t, told(0, "")))
		wantDeaf(t, "the number 0", r, slowLay(t, told(0, "a")))
		wantDeaf(t, "what was heard of the number 0", r, slowLay(t, heard(0)))
	}
}

func TestTheReceiverAtTheGreatestNumbers(t *testing.T) {
	r := NewReceiver(greatestN - 1)
	wantOld(t, r, told(greatestN-1, "a"))
	wantFresh(t, r, told(greatestN, "a"))
	for _, n := range []uint64{1, 2, 1 << 63, greatestN - 1, greatestN} {
		wantOld(t, r, told(n, "a"))
	}
	// One more goes round to 0, and all numbers are above that.
	r = NewReceiver(greatest)
	for _, n := range []uint64{0, 1, 2, 1 << 63, greatestN - 1, greatestN} {
		wantDeaf(t, "behind the greatest number", r, slowLay(t, told(n, "a")))
	}
	wantHeard(t, r, greatest)
}

func TestTheReceiverHearsWhatIsToldAlone(t *testing.T) {
	r := NewReceiver(5)
	right := slowLay(t, told(6, "ab"))
	for n := range uint64(20) {
		wantDeaf(t, "what was heard", r, slowLay(t, heard(n)))
	}
	for _, x := range []struct {
		what string
		b    []byte
	}{
		{"nil", nil},
		{"no bytes", []byte{}},
		{"a beginning", right[:len(right)-1]},
		{"a byte behind", append(slices.Clone(right), 0)},
		{"twice", append(slices.Clone(right), right...)},
		{"without a frame", sample.BytesOf(content(told(6, "ab")))},
		{"bits 1 behind it", framed(t, sample.BytesOf(content(told(6, "ab"))+"1"))},
		{"201 bytes", slowLay(t, told(6, strings.Repeat("x", 201)))},
		{"201 bytes of an older number", slowLay(t, told(5, strings.Repeat("x", 201)))},
		{"no number", framed(t, []byte{0})},
		{"nothing in a frame", framed(t, nil)},
	} {
		wantDeaf(t, x.what, r, x.b)
	}
	wantFresh(t, r, told(6, "ab"))
}

func TestNilReceiver(t *testing.T) {
	var r *Receiver
	for _, b := range [][]byte{nil, {}, {0}, slowLay(t, told(0, "")), slowLay(t, told(1, "a")), slowLay(t, heard(1))} {
		wantDeaf(t, "nil", r, b)
	}
	wantHeard(t, r, 0)
}

func TestTheZeroReceiverHasHeardNothing(t *testing.T) {
	r := &Receiver{}
	wantHeard(t, r, 0)
	wantDeaf(t, "a number above the next one", r, slowLay(t, told(2, "a")))
	wantFresh(t, r, told(1, "a"))
}

func TestExample(t *testing.T) {
	s, r := NewSender(0), NewReceiver(0)
	wantTell(t, s, []byte("ab"), api.OK)
	b, _ := s.Packet()
	data, fresh, back := r.Hear(b)
	if string(data) != "ab" || !fresh {
		t.Errorf("the first time: %q, %v", data, fresh)
	}
	data, fresh, again := r.Hear(b)
	if len(data) != 0 || fresh || !bytes.Equal(again, back) {
		t.Errorf("the second time: %q, %v, %v", data, fresh, again)
	}
	wantSenderHears(t, "the first time", s, back, true)
	wantSenderHears(t, "the second time", s, again, false)
}

// P14.4 and P14.5

// talk is a sender and a receiver, what the one was told and the other one heard, and all packets that were ever sent to and fro.
type talk struct {
	t           *testing.T
	s           *Sender
	r           *Receiver
	first       uint64
	told, heard []string
	out, back   []string
}

func begun(t *testing.T, first uint64) *talk {
	return &talk{t: t, s: NewSender(first), r: NewReceiver(first), first: first}
}

func keep(l []string, b []byte) []string {
	if slices.Contains(l, string(b)) {
		return l
	}
	return append(l, string(b))
}

// tell tells a thing that is like none that was told ahead of it; one of them has no bytes.
func (k *talk) tell() {
	thing := ""
	if len(k.told) != 1 {
		thing = "thing " + strconv.Itoa(len(k.told))
	}
	if k.s.Tell([]byte(thing)) == api.OK {
		k.told = append(k.told, thing)
	}
}

func (k *talk) send() []byte {
	b, is := k.s.Packet()
	if is {
		k.out = keep(k.out, b)
	}
	return b
}

// comes lets a packet come to the receiver.
func (k *talk) comes(b []byte) []byte {
	data, fresh, back := k.r.Hear(b)
	if fresh {
		k.heard = append(k.heard, string(data))
	}
	if len(back) > 0 {
		k.back = keep(k.back, back)
	}
	return back
}

// like asks that what was heard is the first so many things that were told, as many as the sender knows of, or one more.
func (k *talk) like() {
	k.t.Helper()
	if len(k.heard) > len(k.told) || !slices.Equal(k.heard, k.told[:len(k.heard)]) {
		k.t.Fatalf("%q were told, %q were heard", k.told, k.heard)
	}
	knows := k.s.Told() - k.first
	if many := uint64(len(k.heard)); many != k.r.Heard()-k.first || many != knows && many != knows+1 {
		k.t.Fatalf("the sender knows of %d, the receiver of %d, heard were %d", knows, k.r.Heard()-k.first, many)
	}
}

// goes asks that a thing that is to be told is heard, if its packet comes, and what is sent back.
func (k *talk) goes() {
	k.t.Helper()
	b := k.send()
	if len(b) == 0 {
		return
	}
	before := k.s.Told()
	back := k.comes(b)
	wantSenderHears(k.t, "both came", k.s, back, true)
	wantTold(k.t, k.s, before+1)
	wantHeard(k.t, k.r, before+1)
	wantTells(k.t, k.s, 0, "")
	k.like()
	if len(k.heard) != len(k.told) {
		k.t.Errorf("%q were told, %q were heard", k.told, k.heard)
	}
}

// call is something that may happen: the sender tells or sends, or one of all packets that were ever sent comes, to whom it was sent, or to the other one.
type call struct {
	kind byte
	at   int
}

func (k *talk) do(c call) {
	switch c.kind {
	case 't':
		k.tell()
	case 's':
		k.send()
	case 'c':
		k.comes([]byte(k.out[c.at]))
	case 'b':
		k.s.Hear([]byte(k.back[c.at]))
	case 'C':
		wantSenderHears(k.t, "its own packet", k.s, []byte(k.out[c.at]), false)
	case 'B':
		wantDeaf(k.t, "its own packet", k.r, []byte(k.back[c.at]))
	}
	k.like()
}

func (k *talk) calls() []call {
	l := []call{{'t', 0}, {'s', 0}}
	for at := range k.out {
		l = append(l, call{'c', at}, call{'C', at})
	}
	for at := range k.back {
		l = append(l, call{'b', at}, call{'B', at})
	}
	return l
}

// state is all by which talks may differ.
func (k *talk) state() string {
	b, _ := k.s.Packet()
	numbers := strconv.FormatUint(k.s.Told(), 10) + " " + strconv.FormatUint(k.r.Heard(), 10) + " " + strconv.Itoa(len(k.told))
	return strings.Join([]string{numbers, string(b), strings.Join(k.out, "|"), strings.Join(k.back, "|")}, "\n")
}

func after(t *testing.T, first uint64, way []call) *talk {
	k := begun(t, first)
	for _, c := range way {
		k.do(c)
	}
	return k
}

// A network that loses nothing for good, and lets come whatever was ever sent, whenever it likes, can do all that any network does: so all states are tried that there are of a few things.
func TestWhateverANetworkDoes(t *testing.T) {
	for _, first := range []uint64{0, 5, greatestN - 3, greatestN - 1} {
		seen := map[string]bool{}
		most := 0
		for ways := [][]call{nil}; len(ways) > 0; ways = ways[1:] {
			k := after(t, first, ways[0])
			if seen[k.state()] || len(k.told) > 7 {
				continue
			}
			seen[k.state()] = true
			most = max(most, len(k.heard))
			for _, c := range k.calls() {
				ways = append(ways, append(slices.Clone(ways[0]), c))
			}
			k.goes()
		}
		if want := min(7, greatestN-first); uint64(most) != want {
			t.Errorf("from %d on: %d were heard, want %d", first, most, want)
		}
		if len(seen) < 4*most {
			t.Errorf("from %d on: %d states are too few", first, len(seen))
		}
	}
}

// over is a talk over networks of layer 13.
type over struct {
	*talk
	to, from *net.Net
	draw     func(below int) int
}

func (o over) do() {
	switch o.draw(9) {
	case 0:
		o.tell()
	case 1, 2, 3:
		if b := o.send(); len(b) > 0 {
			o.to.Send(b)
		}
	case 4, 5:
		if back := o.comes(sample.Comes(o.to, o.draw)); len(back) > 0 {
			o.from.Send(back)
		}
	case 6, 7:
		o.s.Hear(sample.Comes(o.from, o.draw))
	case 8:
		o.to.Lose(o.draw(3))
		o.from.Lose(o.draw(3))
	}
	o.like()
}

func TestOverNetworks(t *testing.T) {
	for seed := range 40 {
		o := over{begun(t, uint64(seed)), net.New(), net.New(), sample.Numbers(seed)}
		for range 3000 {
			o.do()
		}
		if len(o.told) < 30 {
			t.Errorf("seed %d: %d things are too few", seed, len(o.told))
		}
		o.goes()
		// What is still under way changes nothing any more.
		for o.to.Len() > 0 {
			b, _ := o.to.Take(o.draw(o.to.Len()))
			o.comes(b)
		}
		for o.from.Len() > 0 {
			b, _ := o.from.Take(o.draw(o.from.Len()))
			wantSenderHears(t, "nothing is to be told", o.s, b, false)
		}
		if o.like(); !slices.Equal(o.heard, o.told) {
			t.Errorf("seed %d: %q were told, %q were heard", seed, o.told, o.heard)
		}
	}
}

// Rules 4 to 6

func TestWhatIsHandedInIsNeitherChangedNorKept(t *testing.T) {
	room := []byte("abcdef")
	s := NewSender(0)
	b, _ := Lay(api.Packet{N: 1, Data: room[1:3]})
	wantTell(t, s, room[1:3], api.OK)
	if string(room) != "abcdef" {
		t.Errorf("changed to %q", room)
	}
	sample.Spoil(room, '!')
	wantTells(t, s, 1, "bc")

	for _, p := range []api.Packet{told(1, "bc"), heard(1)} {
		room := append(slowLay(t, p), 1, 2, 3)
		before := slices.Clone(room)
		b := room[:len(room)-3]
		Take(b)
		NewReceiver(0).Hear(b)
		s.Hear(b)
		if !bytes.Equal(room, before) {
			t.Errorf("%x is changed to %x", before, room)
		}
	}
	r := NewReceiver(0)
	data, _, _ := r.Hear(b)
	p, _ := Take(b)
	sample.Spoil(b, '!')
	if string(data) != "bc" || string(p.Data) != "bc" {
		t.Errorf("answers share what was handed in: %q, %q", data, p.Data)
	}
	wantOld(t, r, told(1, "bc"))
}

func TestAnswersAreTheCallers(t *testing.T) {
	s, r := NewSender(0), NewReceiver(0)
	wantTell(t, s, []byte("ab"), api.OK)
	first, _ := s.Packet()
	second, _ := s.Packet()
	sample.Spoil(first, '!')
	if !bytes.Equal(second, slowLay(t, told(1, "ab"))) {
		t.Errorf("another answer's change has changed one to %x", second)
	}
	wantTells(t, s, 1, "ab")

	data, _, back := r.Hear(second)
	sample.Spoil(data, '!')
	if !bytes.Equal(back, slowLay(t, heard(1))) {
		t.Errorf("what was heard and what is sent back share memory: %x", back)
	}
	_, _, again := r.Hear(second)
	sample.Spoil(back, '!')
	if !bytes.Equal(again, slowLay(t, heard(1))) {
		t.Errorf("another answer's change has changed one to %x", again)
	}
	wantSenderHears(t, "it was heard", s, again, true)

	p, _ := Take(second)
	q, _ := Take(second)
	sample.Spoil(p.Data, '!')
	if string(q.Data) != "ab" {
		t.Errorf("another answer's change has changed one to %q", q.Data)
	}
	one, _ := Lay(told(1, "ab"))
	other, _ := Lay(told(1, "ab"))
	sample.Spoil(one, '!')
	if !bytes.Equal(other, slowLay(t, told(1, "ab"))) {
		t.Errorf("another answer's change has changed one to %x", other)
	}
}

func TestWhatIsBehindAListIsNotRead(t *testing.T) {
	for _, behind := range []byte{0, 255} {
		room := append([]byte("ab"), behind, behind)
		if b, e := Lay(api.Packet{N: 1, Data: room[:2]}); e != api.OK || !bytes.Equal(b, slowLay(t, told(1, "ab"))) {
			t.Errorf("Lay is %x, error %d", b, e)
		}
		if b, e := Lay(api.Packet{Heard: true, N: 1, Data: room[:0]}); e != api.OK || !bytes.Equal(b, slowLay(t, heard(1))) {
			t.Errorf("Lay is %x, error %d", b, e)
		}
		b := append(slowLay(t, told(1, "ab")), behind)
		wantTaken(t, b[:len(b)-1], told(1, "ab"))
	}
}

func TestTalksStandApart(t *testing.T) {
	one, other := NewSender(0), NewSender(0)
	wantTell(t, one, []byte("a"), api.OK)
	wantTells(t, other, 0, "")
	wantTell(t, other, []byte("b"), api.OK)
	wantSenderHears(t, "one", one, slowLay(t, heard(1)), true)
	wantTells(t, other, 1, "b")
	wantTold(t, other, 0)

	r, q := NewReceiver(0), NewReceiver(0)
	wantFresh(t, r, told(1, "a"))
	wantHeard(t, q, 0)
	wantFresh(t, q, told(1, "a"))
}

func TestTheSameCallsAnswerTheSame(t *testing.T) {
	once := func() []string {
		o := over{begun(t, 0), net.New(), net.New(), sample.Numbers(7)}
		var all []string
		for range 500 {
			o.do()
			all = append(all, o.state())
		}
		return all
	}
	want := once()
	for range 3 {
		if !slices.Equal(once(), want) {
			t.Error("two talks that were told the same differ")
		}
	}
}
