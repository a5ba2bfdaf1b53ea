package record

import (
	"bytes"
	"math"
	"slices"
	"strings"
	"testing"

	"carfax/api"
	"carfax/sample"
)

// The tests hold records and acts against texts of 0 and 1, and against what each kind's own words say of its fields.

// laid is how one sort of things is laid and taken, and its bits as a text of 0 and 1.
type laid[T comparable] struct {
	lay  func(x T) ([]byte, api.Errno)
	take func(b []byte) (T, api.Errno)
	text func(x T) string
}

func records() laid[api.Rec] { return laid[api.Rec]{Lay, Take, recText} }

func acts() laid[api.Act] { return laid[api.Act]{LayAct, TakeAct, actText} }

func (l laid[T]) bytes(x T) []byte { return sample.BytesOf(l.text(x)) }

// want asks that a thing is laid as its text says, and taken again.
func (l laid[T]) want(t *testing.T, x T) {
	t.Helper()
	l.wantBoth(t, x, l.bytes(x))
}

func (l laid[T]) wantBoth(t *testing.T, x T, want []byte) {
	t.Helper()
	if b, e := l.lay(x); e != api.OK || !bytes.Equal(b, want) {
		t.Errorf("%+v is laid as %08b, error %d, want %08b", x, b, e, want)
	}
	l.wantTaken(t, want, x)
}

func (l laid[T]) wantTaken(t *testing.T, b []byte, want T) {
	t.Helper()
	if x, e := l.take(b); e != api.OK || x != want {
		t.Errorf("%08b is taken as %+v, error %d, want %+v", b, x, e, want)
	}
}

func (l laid[T]) wantRefused(t *testing.T, x T) {
	t.Helper()
	if b, e := l.lay(x); e != api.ErrArg || len(b) != 0 {
		t.Errorf("%+v is laid as %08b, error %d", x, b, e)
	}
}

func (l laid[T]) wantNone(t *testing.T, what string, b []byte) {
	t.Helper()
	var zero T
	if x, e := l.take(b); e != api.ErrRec || x != zero {
		t.Errorf("%s: %08b is taken as %+v, error %d", what, b, x, e)
	}
}

func put(n, many int) string { return sample.PutText(uint64(n), many) }

func count(n int) string { return sample.CountText(uint64(n)) }

// recText is a record's bits, also of one whose numbers may not be, if they have so many bits.
func recText(r api.Rec) string {
	switch r.Kind {
	case api.RecMission:
		return "001" + put(r.Pod, 6) + put(r.Cell, 8) + put(r.Prio, 3)
	case api.RecCancel:
		return "010" + count(r.ID)
	case api.RecAssign:
		return "011" + count(r.ID) + put(r.Robot, 3)
	case api.RecGrant:
		return "100" + put(r.Robot, 3)
	case api.RecDone:
		return "101" + put(r.Robot, 3)
	}
	return ""
}

func actText(x api.Act) string { return put(int(x.Kind), 2) + put(x.Cell, 8) + put(x.Pod, 6) }

func upTo(n, most int) bool { return 0 <= n && n <= most }

func slowRight(r api.Rec) bool {
	switch r.Kind {
	case api.RecMission:
		return upTo(r.Pod, 63) && upTo(r.Cell, 255) && upTo(r.Prio, 5) && r == mission(r.Pod, r.Cell, r.Prio)
	case api.RecCancel:
		return upTo(r.ID, 1<<30) && r == cancel(r.ID)
	case api.RecAssign:
		return upTo(r.ID, 1<<30) && upTo(r.Robot, 7) && r == assign(r.ID, r.Robot)
	case api.RecGrant:
		return upTo(r.Robot, 7) && r == grant(r.Robot)
	case api.RecDone:
		return upTo(r.Robot, 7) && r == done(r.Robot)
	}
	return false
}

func slowRightAct(x api.Act) bool {
	pods := 63
	if x.Kind == api.ActGo {
		pods = 0
	}
	return upTo(int(x.Kind)-1, 2) && upTo(x.Cell, 255) && upTo(x.Pod, pods)
}

func mission(pod, cell, prio int) api.Rec {
	return api.Rec{Kind: api.RecMission, Pod: pod, Cell: cell, Prio: prio}
}

func cancel(id int) api.Rec { return api.Rec{Kind: api.RecCancel, ID: id} }

func assign(id, robot int) api.Rec { return api.Rec{Kind: api.RecAssign, ID: id, Robot: robot} }

func grant(robot int) api.Rec { return api.Rec{Kind: api.RecGrant, Robot: robot} }

func done(robot int) api.Rec { return api.Rec{Kind: api.RecDone, Robot: robot} }

func missions() []api.Rec {
	var l []api.Rec
	for pod := range 64 {
		for cell := range 256 {
			for prio := range 6 {
				l = append(l, mission(pod, cell, prio))
			}
		}
	}
	return l
}

// withIDs is what is of a mission's number, for each of some numbers, and what is of robots alone.
func withIDs(ids []int) []api.Rec {
	var l []api.Rec
	for robot := range 8 {
		l = append(l, grant(robot), done(robot))
	}
	for _, id := range ids {
		l = append(l, cancel(id))
		for robot := range 8 {
			l = append(l, assign(id, robot))
		}
	}
	return l
}

// ids is small numbers, and those about each power of two, up to the greatest.
func ids() []int {
	var l []int
	for _, n := range sample.Counts() {
		if n <= 1<<30 {
			l = append(l, int(n))
		}
	}
	return l
}

// rightRecs is all records, but that of missions' numbers some stand for all.
func rightRecs() []api.Rec { return append(missions(), withIDs(ids())...) }

func rightActs() []api.Act {
	var l []api.Act
	for cell := range 256 {
		l = append(l, sample.Go(cell))
		for pod := range 64 {
			l = append(l, sample.Lift(pod, cell), sample.Drop(pod, cell))
		}
	}
	return l
}

// someRecs is a few records of each kind.
func someRecs() []api.Rec {
	return []api.Rec{
		mission(0, 0, 0), mission(63, 255, 5), mission(42, 170, 2),
		cancel(0), cancel(6), cancel(300), cancel(1 << 30),
		assign(0, 0), assign(7, 3), assign(1<<30, 7),
		grant(0), grant(7), done(0), done(5),
	}
}

func someActs() []api.Act {
	return []api.Act{sample.Go(0), sample.Go(255), sample.Lift(63, 3), sample.Lift(0, 0), sample.Drop(42, 170), sample.Drop(63, 255)}
}

// with is a record that has another number in one of its fields.
func with(r api.Rec, field, n int) api.Rec {
	switch field {
	case 0:
		r.ID = n
	case 1:
		r.Robot = n
	case 2:
		r.Pod = n
	case 3:
		r.Cell = n
	case 4:
		r.Prio = n
	}
	return r
}

func wantLikeSlow(t *testing.T, r api.Rec) {
	t.Helper()
	want := slowRight(r)
	if got := Right(r); got != want {
		t.Errorf("Right of %+v is %v", r, got)
	}
	if want {
		records().want(t, r)
	} else {
		records().wantRefused(t, r)
	}
}

func TestExamples(t *testing.T) {
	records().wantBoth(t, api.Rec{Kind: api.RecDone, Robot: 5}, []byte{180})
	acts().wantBoth(t, api.Act{Kind: api.ActGo, Cell: 7}, []byte{65, 192})
}

// P17.1

func TestRightOfKnownRecords(t *testing.T) {
	for _, x := range []struct {
		r    api.Rec
		want bool
	}{
		{api.Rec{}, false},
		{api.Rec{Kind: 1}, true},
		{api.Rec{Kind: 1, Pod: 63, Cell: 255, Prio: 5}, true},
		{api.Rec{Kind: 1, Pod: 64, Cell: 255, Prio: 5}, false},
		{api.Rec{Kind: 1, Pod: 63, Cell: 256, Prio: 5}, false},
		{api.Rec{Kind: 1, Pod: 63, Cell: 255, Prio: 6}, false},
		{api.Rec{Kind: 1, Pod: -1}, false},
		{api.Rec{Kind: 1, Cell: -1}, false},
		{api.Rec{Kind: 1, Prio: -1}, false},
		{api.Rec{Kind: 1, ID: 1}, false},
		{api.Rec{Kind: 1, Robot: 1}, false},
		{api.Rec{Kind: 2}, true},
		{api.Rec{Kind: 2, ID: 1 << 30}, true},
		{api.Rec{Kind: 2, ID: 1<<30 + 1}, false},
		{api.Rec{Kind: 2, ID: -1}, false},
		{api.Rec{Kind: 2, Robot: 1}, false},
		{api.Rec{Kind: 3}, true},
		{api.Rec{Kind: 3, ID: 1 << 30, Robot: 7}, true},
		{api.Rec{Kind: 3, ID: 1<<30 + 1, Robot: 7}, false},
		{api.Rec{Kind: 3, ID: 1 << 30, Robot: 8}, false},
		{api.Rec{Kind: 3, Robot: -1}, false},
		{api.Rec{Kind: 3, Pod: 1}, false},
		{api.Rec{Kind: 4, Robot: 7}, true},
		{api.Rec{Kind: 4, Robot: 8}, false},
		{api.Rec{Kind: 4, ID: 1}, false},
		{api.Rec{Kind: 5, Robot: 7}, true},
		{api.Rec{Kind: 5, Robot: -1}, false},
		{api.Rec{Kind: 5, Prio: 1}, false},
		{api.Rec{Kind: 6}, false},
		{api.Rec{Kind: 255}, false},
	} {
		if got := Right(x.r); got != x.want {
			t.Errorf("Right of %+v is %v", x.r, got)
		}
		wantLikeSlow(t, x.r)
	}
}

func TestRightRecords(t *testing.T) {
	for _, r := range rightRecs() {
		if !Right(r) {
			t.Errorf("%+v is not right", r)
		}
	}
}

// All records of numbers at the edges of what may be, in each of a record's fields.
func TestRightOfAllEdges(t *testing.T) {
	edges := []int{-1, 0, 1, 5, 6, 7, 8, 63, 64, 255, 256, 1 << 30, 1<<30 + 1}
	right := 0
	sample.Orders(edges, 5, func(made []int) {
		for kind := range uint8(9) {
			r := api.Rec{Kind: kind}
			for field, n := range made {
				r = with(r, field, n)
			}
			if want := slowRight(r); Right(r) != want {
				t.Fatalf("Right of %+v is %v", r, !want)
			} else if want {
				right++
			}
		}
	})
	if right < 500 {
		t.Errorf("%d right ones are too few", right)
	}
}

func TestNumbersThatAreFarOff(t *testing.T) {
	for _, r := range someRecs() {
		for field := range 5 {
			for _, n := range append(sample.Outside(), 1<<31, 1<<30+1, math.MinInt32, math.MaxInt32) {
				// Of these numbers some are a mission's, and none is anything else.
				wantLikeSlow(t, with(r, field, n))
			}
		}
	}
}

func TestKindsThatAreNone(t *testing.T) {
	for kind := range 256 {
		if upTo(kind-1, 4) {
			continue
		}
		for _, r := range append(someRecs(), api.Rec{}) {
			r.Kind = uint8(kind)
			if Right(r) {
				t.Errorf("%+v is right", r)
			}
			records().wantRefused(t, r)
		}
	}
}

// Each kind has just its own fields: a 1 in any other one is too much.
func TestFieldsThatAKindHasNot(t *testing.T) {
	has := []string{"", "  PCO", "I    ", "IR   ", " R   ", " R   "}
	for kind := 1; kind <= 5; kind++ {
		for field := range 5 {
			want := has[kind][field] != ' '
			for _, n := range []int{1, 2} {
				r := with(api.Rec{Kind: uint8(kind)}, field, n)
				if got := Right(r); got != want {
					t.Errorf("Right of %+v is %v", r, got)
				}
			}
			wantLikeSlow(t, with(api.Rec{Kind: uint8(kind)}, field, -1))
		}
	}
}

// P17.2

func TestLayOfKnownRecords(t *testing.T) {
	for _, x := range []struct {
		r    api.Rec
		want []byte
	}{
		{api.Rec{Kind: 1}, []byte{0b001_00000, 0b0_0000000, 0b0_000_0000}},
		{api.Rec{Kind: 1, Pod: 63}, []byte{0b001_11111, 0b1_0000000, 0b0_000_0000}},
		{api.Rec{Kind: 1, Cell: 255}, []byte{0b001_00000, 0b0_1111111, 0b1_000_0000}},
		{api.Rec{Kind: 1, Prio: 5}, []byte{0b001_00000, 0b0_0000000, 0b0_101_0000}},
		{api.Rec{Kind: 1, Pod: 1, Cell: 1, Prio: 1}, []byte{0b001_00000, 0b1_0000000, 0b1_001_0000}},
		{api.Rec{Kind: 2}, []byte{0b010_1_0000}},
		{api.Rec{Kind: 2, ID: 1}, []byte{0b010_010_00}},
		{api.Rec{Kind: 2, ID: 4}, []byte{0b010_00101}},
		{api.Rec{Kind: 2, ID: 7}, []byte{0b010_00010, 0b00_000000}},
		{api.Rec{Kind: 2, ID: 1 << 30}, []byte{0b010_00000, 0, 0, 0, 0b0_1000000, 0, 0, 1}},
		{api.Rec{Kind: 2, ID: 1<<30 - 1}, []byte{0b010_00000, 0, 0, 0, 0b0_1000000, 0, 0, 0}},
		{api.Rec{Kind: 2, ID: 1<<30 - 2}, []byte{0b010_00000, 0, 0, 0, 0b11111111, 255, 255, 0b111111_00}},
		{api.Rec{Kind: 3}, []byte{0b011_1_000_0}},
		{api.Rec{Kind: 3, Robot: 7}, []byte{0b011_1_111_0}},
		{api.Rec{Kind: 3, ID: 2, Robot: 5}, []byte{0b011_011_10, 0b1_0000000}},
		{api.Rec{Kind: 3, ID: 1 << 30, Robot: 5}, []byte{0b011_00000, 0, 0, 0, 0b0_1000000, 0, 0, 1, 0b101_00000}},
		{api.Rec{Kind: 4}, []byte{0b100_000_00}},
		{api.Rec{Kind: 4, Robot: 7}, []byte{0b100_111_00}},
		{api.Rec{Kind: 5, Robot: 5}, []byte{0b101_101_00}},
	} {
		records().wantBoth(t, x.r, x.want)
	}
}

func TestLayAndTakeOfRecords(t *testing.T) {
	for _, r := range rightRecs() {
		records().want(t, r)
	}
}

// shortTexts is all texts of up to so many bytes.
func shortTexts(most int, try func(b []byte)) {
	for many := range most + 1 {
		b := make([]byte, many)
		for n := range 1 << (8 * many) {
			for i := range b {
				b[i] = byte(n >> (8 * i))
			}
			try(b)
		}
	}
}

// A text of up to three bytes is a record just where one is laid so.
func TestTakeOfAllShortTexts(t *testing.T) {
	laid := map[string]api.Rec{}
	small := make([]int, 2050)
	for id := range small {
		small[id] = id
	}
	for _, r := range append(missions(), withIDs(small)...) {
		laid[string(records().bytes(r))] = r
	}
	shortTexts(3, func(b []byte) {
		want, is := laid[string(b)]
		wantE := api.OK
		if !is {
			wantE = api.ErrRec
		}
		if r, e := Take(b); r != want || e != wantE {
			t.Fatalf("%08b is taken as %+v, error %d, want %+v, error %d", b, r, e, want, wantE)
		}
	})
}

// wantNoneOfOthers asks that a thing's bytes with a beginning alone, more behind them, or a 1 in the bits that only fill them up, are none.
func (l laid[T]) wantNoneOfOthers(t *testing.T, x T) {
	t.Helper()
	text, b := l.text(x), l.bytes(x)
	for i := range b {
		l.wantNone(t, "a beginning", b[:i])
	}
	for _, behind := range [][]byte{{0}, {1}, {128}, {255}, {0, 0}, make([]byte, 100), b} {
		l.wantNone(t, "more behind it", append(slices.Clone(b), behind...))
	}
	l.wantNone(t, "a byte ahead", append([]byte{0}, b...))
	for at := len(text); at < 8*len(b); at++ {
		other := slices.Clone(b)
		other[at/8] |= 0x80 >> (at % 8)
		l.wantNone(t, "a bit 1 behind it", other)
	}
}

func TestTakeOfMoreAndLess(t *testing.T) {
	for _, r := range someRecs() {
		records().wantNoneOfOthers(t, r)
	}
	for _, r := range withIDs([]int{1, 2, 30, 31, 126, 127, 128, 1 << 20, 1<<30 - 1}) {
		records().wantNoneOfOthers(t, r)
	}
}

func TestTakeOfWhatIsNone(t *testing.T) {
	zeros := func(many int) string { return strings.Repeat("0", many) }
	for _, x := range []struct{ what, bits string }{
		{"no bits", ""},
		{"kind 0", "000"},
		{"kind 0 and a robot", "000" + "101"},
		{"kind 0 and a count", "000" + "1"},
		{"many bits 0", zeros(8000)},
		{"kind 6", "110"},
		{"kind 6 and a robot", "110" + "101"},
		{"kind 6 and a mission's fields", "110" + zeros(17)},
		{"kind 7", "111"},
		{"kind 7 and a count", "111" + "1"},
		{"many bits 1", strings.Repeat("1", 8000)},
		{"a mission of priority 6", "001" + zeros(14) + "110"},
		{"a mission of priority 7", "001" + zeros(14) + "111"},
		{"the last mission of priority 6", "001" + strings.Repeat("1", 14) + "110"},
		{"a mission without a priority", "001" + zeros(13)},
		{"a count that ends too early", "010" + "00001"},
		{"a count without a bit 1", "010" + zeros(61)},
		{"a count of 63 bits 0", "010" + zeros(63) + "1" + zeros(60)},
		{"a count of 64 bits 0", "010" + zeros(64) + "1" + zeros(64)},
		{"a count of 64 bits 0, with a robot", "011" + zeros(64) + "1" + zeros(64) + "001"},
		{"no robot behind a count", "011" + "00101"},
		{"a robot that ends too early", "011" + "011" + "10"},
	} {
		records().wantNone(t, x.what, sample.BytesOf(x.bits))
	}
	records().wantNone(t, "nil", nil)
}

// Counts are laid of greater numbers, too, that are no mission's, also where their lowest bits are.
func TestTakeOfNumbersThatNoMissionHas(t *testing.T) {
	for _, n := range append(sample.Counts(), 1<<30+5, 1<<31+5, 1<<32+5, 1<<32+1<<30, 1<<40, 1<<63+5, 1<<63+1<<32) {
		if n <= 1<<30 {
			continue
		}
		records().wantNone(t, "a cancel", sample.BytesOf("010"+sample.CountText(n)))
		for robot := range 8 {
			records().wantNone(t, "an assign", sample.BytesOf("011"+sample.CountText(n)+put(robot, 3)))
		}
	}
}

// P17.3

func TestLayOfKnownActs(t *testing.T) {
	for _, x := range []struct {
		x    api.Act
		want []byte
	}{
		{api.Act{Kind: 1}, []byte{0b01_000000, 0b00_000000}},
		{api.Act{Kind: 1, Cell: 255}, []byte{0b01_111111, 0b11_000000}},
		{api.Act{Kind: 2, Cell: 3, Pod: 63}, []byte{0b10_000000, 0b11_111111}},
		{api.Act{Kind: 2, Cell: 128}, []byte{0b10_100000, 0b00_000000}},
		{api.Act{Kind: 3, Pod: 1}, []byte{0b11_000000, 0b00_000001}},
		{api.Act{Kind: 3, Cell: 255, Pod: 63}, []byte{255, 255}},
	} {
		acts().wantBoth(t, x.x, x.want)
	}
}

func TestLayAndTakeOfActs(t *testing.T) {
	for _, x := range rightActs() {
		acts().want(t, x)
	}
}

func TestLayActRefuses(t *testing.T) {
	numbers := append(sample.Outside(), 0, 1, 2, 62, 63, 64, 65, 127, 128, 254, 255)
	right := 0
	for kind := range 256 {
		for _, cell := range numbers {
			for _, pod := range numbers {
				x := api.Act{Kind: uint8(kind), Cell: cell, Pod: pod}
				if slowRightAct(x) {
					right++
					acts().want(t, x)
				} else {
					acts().wantRefused(t, x)
				}
			}
		}
	}
	// Eleven of these numbers are cells, and five pods.
	if want := 11 + 2*11*5; right != want {
		t.Errorf("%d right ones, want %d", right, want)
	}
}

// A text of up to two bytes is an act just where one is laid so.
func TestTakeActOfAllShortTexts(t *testing.T) {
	laid := map[string]api.Act{}
	for _, x := range rightActs() {
		laid[string(acts().bytes(x))] = x
	}
	taken := 0
	shortTexts(2, func(b []byte) {
		if x, is := laid[string(b)]; is {
			taken++
			acts().wantTaken(t, b, x)
		} else {
			acts().wantNone(t, "a short text", b)
		}
	})
	if want := 256 + 2*256*64; taken != want {
		t.Errorf("%d were taken, want %d", taken, want)
	}
}

func TestTakeActOfMoreAndLess(t *testing.T) {
	acts().wantNone(t, "nil", nil)
	for _, x := range someActs() {
		acts().wantNoneOfOthers(t, x)
	}
	for _, many := range []int{3, 4, 8, 1000} {
		acts().wantNone(t, "bytes 0", make([]byte, many))
		acts().wantNone(t, "bytes 255", slices.Repeat([]byte{255}, many))
	}
}

// P17.4

// wantLaidSo asks that what is taken of bytes, if anything is, is laid as they are.
func (l laid[T]) wantLaidSo(t *testing.T, b []byte) bool {
	t.Helper()
	x, e := l.take(b)
	if e != api.OK {
		l.wantNone(t, "no other error is told", b)
		return false
	}
	if laid, e := l.lay(x); e != api.OK || !bytes.Equal(laid, b) {
		t.Errorf("%08b is taken as %+v, that is laid as %08b, error %d", b, x, laid, e)
	}
	return true
}

func TestWhatIsTakenIsLaidSo(t *testing.T) {
	recs, others := 0, 0
	try := func(b []byte) {
		if records().wantLaidSo(t, b) {
			recs++
		}
		if acts().wantLaidSo(t, b) {
			others++
		}
	}
	for seed := range 20000 {
		try(sample.Bytes(seed%13, seed))
	}
	for _, r := range append(someRecs(), withIDs(ids())...) {
		b := records().bytes(r)
		for at := range 8 * len(b) {
			b[at/8] ^= 0x80 >> (at % 8)
			try(b)
			b[at/8] ^= 0x80 >> (at % 8)
		}
	}
	if recs < 10000 || others < 1000 {
		t.Errorf("%d records and %d acts are too few", recs, others)
	}
}

func FuzzTake(f *testing.F) {
	for _, r := range someRecs() {
		f.Add(records().bytes(r))
	}
	for _, x := range someActs() {
		f.Add(acts().bytes(x))
	}
	f.Fuzz(func(t *testing.T, b []byte) {
		records().wantLaidSo(t, b)
		acts().wantLaidSo(t, b)
	})
}

func FuzzLay(f *testing.F) {
	for _, r := range someRecs() {
		f.Add(r.Kind, r.ID, r.Robot, r.Pod, r.Cell, r.Prio)
	}
	f.Fuzz(func(t *testing.T, kind uint8, id, robot, pod, cell, prio int) {
		wantLikeSlow(t, api.Rec{Kind: kind, ID: id, Robot: robot, Pod: pod, Cell: cell, Prio: prio})
		if x := (api.Act{Kind: kind, Cell: cell, Pod: pod}); slowRightAct(x) {
			acts().want(t, x)
		} else {
			acts().wantRefused(t, x)
		}
	})
}

// Rules 4 and 5

// wantApart asks that bytes that are handed in stay as they are, that what is behind them is not read, and that answers share nothing.
func (l laid[T]) wantApart(t *testing.T, x T) {
	t.Helper()
	for _, behind := range []byte{0, 255} {
		room := append(l.bytes(x), behind, behind)
		before := slices.Clone(room)
		l.wantTaken(t, room[:len(room)-2], x)
		if !bytes.Equal(room, before) {
			t.Errorf("%08b is changed to %08b", before, room)
		}
	}
	one, _ := l.lay(x)
	other, _ := l.lay(x)
	sample.Spoil(one, 0x5a)
	if !bytes.Equal(other, l.bytes(x)) {
		t.Errorf("another answer's change has changed one to %08b", other)
	}
	l.want(t, x)
}

func TestArgumentsAndAnswersStandApart(t *testing.T) {
	for _, r := range someRecs() {
		records().wantApart(t, r)
	}
	for _, x := range someActs() {
		acts().wantApart(t, x)
	}
}
