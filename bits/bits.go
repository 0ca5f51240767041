// Package bits is layer 1: see shared/doc/01-bits.md.
package bits

import (
	mathbits "math/bits"

	"crucible/api"
)

// most is how many bits are put or taken at once, and how many noughts stand ahead of a number, at most.
const most = 64

// Writer puts bits behind one another.
type Writer struct {
	bytes []byte
	count int
}

// Put writes the lowest n bits of a number, the highest of them first.
func (w *Writer) Put(x uint64, n int) {
	if w == nil {
		return
	}
	n = within(n)
	for i := range n {
		w.bit(byte(x>>uint(n-1-i)) & 1)
	}
}

// Num writes a number: as many noughts as it has bits less one, then its bits; it is made one greater ahead of that.
func (w *Writer) Num(x uint64) {
	n := noughts(x)
	w.Put(0, n)
	// The leading 1 goes by itself: behind 64 noughts it is a bit that x + 1 has lost.
	w.Put(1, 1)
	w.Put(x+1, n)
}

// Int writes a number that may be below nought.
func (w *Writer) Int(x int) {
	twice := uint64(x) << 1
	if x < 0 {
		// -2 x - 1 is the complement of 2 x, at the least int too.
		twice = ^twice
	}
	w.Num(twice)
}

// Len is how many bits were written.
func (w *Writer) Len() int {
	if w == nil {
		return 0
	}
	return w.count
}

// Bytes is what was written, with noughts up to the end of the last byte.
func (w *Writer) Bytes() []byte {
	if w == nil {
		return nil
	}
	return copied(w.bytes)
}

func (w *Writer) bit(b byte) {
	if w.count%8 == 0 {
		w.bytes = append(w.bytes, 0)
	}
	w.bytes[w.count/8] |= b << place(w.count)
	w.count++
}

// Reader takes bits from the front.
type Reader struct {
	bytes []byte
	at    int
	err   api.Errno
	// stopped stands beside err, for Fail(OK) stops a reader too.
	stopped bool
}

// Read is a reader of bytes.
func Read(b []byte) *Reader { return &Reader{bytes: copied(b)} }

// Left is how many bits are left.
func (r *Reader) Left() int {
	if r == nil {
		return 0
	}
	return 8*len(r.bytes) - r.at
}

// Get reads n bits.
func (r *Reader) Get(n int) uint64 {
	n = within(n)
	if n > r.Left() {
		r.Fail(api.ErrShort)
		return 0
	}
	x := uint64(0)
	for range n {
		x = x<<1 | uint64(r.bit())
	}
	return x
}

// Num reads a number.
func (r *Reader) Num() uint64 {
	for n := range most + 1 {
		if r.Left() == 0 {
			r.Fail(api.ErrShort)
			return 0
		}
		if r.bit() == 1 {
			return r.behind(n)
		}
	}
	r.Fail(api.ErrForm)
	return 0
}

// Int reads a number that may be below nought.
func (r *Reader) Int() int {
	x := r.Num()
	half := int(x >> 1)
	if x&1 == 1 {
		return -half - 1
	}
	return half
}

// Fail stops the reader with an error of its user's.
func (r *Reader) Fail(e api.Errno) {
	if r == nil || r.stopped {
		return
	}
	// Nothing is left: the bytes go.
	*r = Reader{err: e, stopped: true}
}

// Err is why the reader stopped; OK: it hasn't, or Fail(OK) did it.
func (r *Reader) Err() api.Errno {
	if r == nil {
		return api.ErrArg
	}
	return r.err
}

// End is the reader's error, or that more is left than noughts up to the end of a byte.
func (r *Reader) End() api.Errno {
	if r == nil || r.stopped {
		return r.Err()
	}
	if r.Left() >= 8 || r.filled() {
		return api.ErrTrail
	}
	return api.OK
}

func (r *Reader) bit() byte {
	b := r.bytes[r.at/8] >> place(r.at) & 1
	r.at++
	return b
}

// behind is the number whose n noughts and first 1 were taken.
func (r *Reader) behind(n int) uint64 {
	rest := r.Get(n)
	if r.stopped {
		return 0
	}
	if n == most && rest != 0 {
		r.Fail(api.ErrForm)
		return 0
	}
	// Of 64 noughts the shift leaves nothing, and the greatest number is what 0 - 1 wraps to.
	return uint64(1)<<uint(n) + rest - 1
}

// filled tells whether a 1 is left in the byte that was begun.
func (r *Reader) filled() bool {
	return r.at%8 != 0 && r.bytes[r.at/8]<<uint(r.at%8) != 0
}

// within is n, from 0 to the most bits at once.
func within(n int) int { return min(max(n, 0), most) }

// noughts is how many noughts stand ahead of a number.
func noughts(x uint64) int {
	if x+1 == 0 {
		return most
	}
	return mathbits.Len64(x+1) - 1
}

// place is where a bit stands in its byte, counted from the lowest: bytes fill from the highest one down.
func place(i int) uint { return uint(7 - i%8) }

func copied(b []byte) []byte {
	c := make([]byte, len(b))
	copy(c, b)
	return c
}
