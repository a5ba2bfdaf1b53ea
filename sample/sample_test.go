package sample

import (
	"slices"
	"strings"
	"testing"

	"carfax/api"
	"carfax/floor"
)

func TestFloorsAreRight(t *testing.T) {
	draw := Numbers(1)
	for side := 2; side <= api.MaxSide; side++ {
		if f := Floor(side, draw, floor.Right); !floor.Right(f) || f.W > side || f.H > side {
			t.Errorf("%v", f)
		}
	}
	for _, s := range []string{Full(), Snake()} {
		if f, row, e := floor.Parse(s); e != api.OK || f.W != api.MaxSide || f.H != api.MaxSide {
			t.Errorf("%q: row %d, error %d", s, row, e)
		}
	}
}

func TestWrongFloorsAreNot(t *testing.T) {
	for _, f := range Wrong() {
		if floor.Right(f) {
			t.Errorf("%v is right", f)
		}
	}
}

func TestCellsInsideAndOutside(t *testing.T) {
	f := api.Floor{W: 3, H: 2, Cells: "0a##b#"}
	if got := Inside(f); !slices.Equal(got, []int{0, 1, 4}) {
		t.Errorf("inside is %v", got)
	}
	for _, cell := range Outside() {
		if cell >= 0 && cell < api.MaxSide*api.MaxSide {
			t.Errorf("%d may be a cell", cell)
		}
	}
}

func TestNumbersAreTheSameForTheSameSeed(t *testing.T) {
	draw, again := Numbers(7), Numbers(7)
	for below := 1; below < 1000; below++ {
		if n := draw(below); n < 0 || n >= below || n != again(below) {
			t.Errorf("%d below %d", n, below)
		}
	}
}

func TestBytesAreTheSameForTheSameSeed(t *testing.T) {
	for many := range 300 {
		b := Bytes(many, 7)
		if len(b) != many || !slices.Equal(b, Bytes(many, 7)) {
			t.Errorf("%d bytes: %v", many, b)
		}
	}
	if slices.Equal(Bytes(9, 1), Bytes(9, 2)) {
		t.Error("another seed makes the same bytes")
	}
}

func TestTextsOfBits(t *testing.T) {
	for _, x := range []struct{ got, want string }{
		{PutText(5, 3), "101"}, {PutText(5, 1), "1"}, {PutText(5, 0), ""}, {PutText(1, 4), "0001"},
		{CountText(0), "1"}, {CountText(1), "010"}, {CountText(4), "00101"},
	} {
		if x.got != x.want {
			t.Errorf("%q, want %q", x.got, x.want)
		}
	}
	if b := BytesOf("0000001011"); !slices.Equal(b, []byte{2, 192}) {
		t.Errorf("%v", b)
	}
}

func TestShortTellsHowLongALongTextIs(t *testing.T) {
	sixty := strings.Repeat("x", 60)
	for text, want := range map[string]string{"": "", "ab": "ab", sixty: sixty, sixty + "yz": sixty + ".. of 62"} {
		if got := Short(text); got != want {
			t.Errorf("%q, want %q", got, want)
		}
	}
}

func TestOrdersAreAll(t *testing.T) {
	var got []string
	Orders([]string{"a", "b"}, 2, func(made []string) { got = append(got, strings.Join(made, "")) })
	if want := []string{"", "a", "aa", "ab", "b", "ba", "bb"}; !slices.Equal(got, want) {
		t.Errorf("%q", got)
	}
	for most := range 5 {
		many := 0
		Orders([]int{1, 2, 3}, most, func(made []int) { many++ })
		if want := []int{1, 4, 13, 40, 121}[most]; many != want {
			t.Errorf("%d lists of up to %d, want %d", many, most, want)
		}
	}
}

// line is packets under way, of one letter each.
type line struct{ all string }

func (l *line) Len() int { return len(l.all) }

func (l *line) Peek(at int) ([]byte, bool) {
	if at >= len(l.all) {
		return nil, false
	}
	return []byte(l.all[at : at+1]), true
}

func (l *line) Take(at int) ([]byte, bool) {
	b, is := l.Peek(at)
	if is {
		l.all = l.all[:at] + l.all[at+1:]
	}
	return b, is
}

func TestAnyPacketComesOrNone(t *testing.T) {
	draw := Numbers(3)
	came := map[string]int{}
	again := 0
	for range 300 {
		l := &line{"abc"}
		b := Comes(l, draw)
		came[string(b)]++
		if len(b) > 0 && strings.Contains(l.all, string(b)) {
			again++
		}
	}
	if len(came) != 4 || again < 20 || again > 200 {
		t.Errorf("%v came, %d stayed under way", came, again)
	}
}

func TestSpoilChangesTheRoomBehindAList(t *testing.T) {
	l := []int{1, 2, 3, 4}
	Spoil(l[1:2:3], 9)
	if !slices.Equal(l, []int{1, 9, 9, 4}) {
		t.Errorf("%v", l)
	}
}
