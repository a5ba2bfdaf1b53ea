// Package bits is layer 1: see shared/doc/01-bits.md.
package bits

import (
	"math"
	mathbits "math/bits"
	"slices"

	"carfax/api"
)

const (
	byteBits = 8
	wordBits = 64
	// A count's number, and one, has at most wordBits bits, and so that many less one ahead of it.
	maxZeros = wordBits - 1
)

// Writer lays numbers, bit by bit.
type Writer struct {
	out  []byte
	laid int
}

// NewWriter is a writer that has laid nothing.
func NewWriter() *Writer { return &Writer{} }

// Put lays the lowest bits of a number, the highest of them first.
func (w *Writer) Put(n uint64, many int) api.Errno {
	switch {
	case w == nil:
		return api.ErrNone
	case !fitsWord(many):
		return api.ErrArg
	case !w.hasRoom(many):
		return api.ErrLong
	}
	spread(n, many, w.lay)
	return api.OK
}

// Count lays a number in as many bits as it needs.
func (w *Writer) Count(n uint64) api.Errno {
	switch {
	case w == nil:
		return api.ErrNone
	case n == math.MaxUint64:
		return api.ErrArg
	}
	m := n + 1
	zeros := mathbits.Len64(m) - 1
	// Both parts are asked for at once: a count is laid whole, or not at all.
	if !w.hasRoom(zeros + zeros + 1) {
		return api.ErrLong
	}
	spread(0, zeros, w.lay)
	spread(m, zeros+1, w.lay)
	return api.OK
}

// Len is how many bits were laid.
func (w *Writer) Len() int {
	if w == nil {
		return 0
	}
	return w.laid
}

// Out is what was laid, as bytes.
func (w *Writer) Out() []byte {
	if w == nil {
		return nil
	}
	return slices.Clone(w.out)
}

func (w *Writer) hasRoom(many int) bool { return many <= api.MaxBits-w.laid }

func (w *Writer) lay(bit byte) {
	place := w.laid % byteBits
	if place == 0 {
		w.out = append(w.out, 0)
	}
	w.out[w.laid/byteBits] |= bit << (byteBits - 1 - place)
	w.laid++
}

// spread hands the many lowest bits of n on, the highest of them first.
func spread(n uint64, many int, lay func(bit byte)) {
	for i := many - 1; i >= 0; i-- {
		lay(byte(n >> i & 1))
	}
}

func fitsWord(many int) bool { return many >= 0 && many <= wordBits }

// Reader takes what was laid.
type Reader struct {
	in    []byte
	at    int
	fault api.Errno
}

// NewReader is a reader of bytes.
func NewReader(b []byte) *Reader { return &Reader{in: slices.Clone(b)} }

// Get takes a number of so many bits.
func (r *Reader) Get(many int) uint64 {
	switch {
	case r == nil || r.fault != api.OK:
		return 0
	case !fitsWord(many):
		return r.fail(api.ErrArg)
	case many > r.Left():
		return r.fail(api.ErrShort)
	}
	return r.take(many)
}

// Count takes a number that was laid by Count.
func (r *Reader) Count() uint64 {
	if r == nil || r.fault != api.OK {
		return 0
	}
	zeros := r.zeros()
	switch {
	case zeros > maxZeros:
		return r.fail(api.ErrLong)
	case zeros+zeros+1 > r.Left():
		return r.fail(api.ErrShort)
	}
	r.at += zeros
	return r.take(zeros+1) - 1
}

// Left is how many bits are left.
func (r *Reader) Left() int {
	if r == nil {
		return 0
	}
	return len(r.in)*byteBits - r.at
}

// End is the first error, or that more is left than fills a byte.
func (r *Reader) End() api.Errno {
	switch {
	case r == nil:
		return api.OK
	case r.fault != api.OK:
		return r.fault
	case r.Left() >= byteBits || r.zeros() < r.Left():
		return api.ErrTail
	}
	return api.OK
}

func (r *Reader) fail(e api.Errno) uint64 {
	r.fault = e
	return 0
}

func (r *Reader) take(many int) uint64 {
	var n uint64
	for range many {
		n = n<<1 | uint64(r.bit(r.at))
		r.at++
	}
	return n
}

// zeros is how many bits 0 stand ahead of the first 1, or of the end. It looks no further than tells whether they are too many.
func (r *Reader) zeros() int {
	n := 0
	for n <= maxZeros && n < r.Left() && r.bit(r.at+n) == 0 {
		n++
	}
	return n
}

func (r *Reader) bit(at int) byte {
	return r.in[at/byteBits] >> (byteBits - 1 - at%byteBits) & 1
}
