package crc

import (
	"bytes"
	"hash/crc32"
	"testing"
)

// slow is the chapter's text, bit by bit: the model that the others are held against.
func slow(x uint32, b []byte) uint32 {
	x = 0xffffffff - x
	for _, c := range b {
		x = x/256*256 + (x%256 ^ uint32(c))
		for i := 0; i < 8; i++ {
			if x%2 == 1 {
				x = x/2 ^ 0x82f63b78
			} else {
				x = x / 2
			}
		}
	}
	return 0xffffffff - x
}

// walk is a plain row of numbers that is spread over all bits.
type walk uint32

func (w *walk) next() uint32 {
	*w = *w*1664525 + 1013904223
	x := uint32(*w)
	return x ^ x>>15
}

func (w *walk) bytes(n int) []byte {
	b := make([]byte, n)
	for i := range b {
		b[i] = byte(w.next())
	}
	return b
}

func edges() []uint32 {
	return []uint32{0, 1, 2, 0x7fffffff, 0x80000000, 0x80000001, 0x82f63b78, ^uint32(0x82f63b78), 0xfffffffe, 0xffffffff, 0xe3069283}
}

func TestSumIsAsKnown(t *testing.T) {
	for _, c := range []struct {
		text string
		want uint32
	}{
		{"", 0},
		{"a", 0xc1d04330},
		{"123456789", 0xe3069283},
		{string(make([]byte, 32)), 0x8a9136aa},
		{string(bytes.Repeat([]byte{0xff}, 32)), 0x62a8ab43},
	} {
		if got := Sum([]byte(c.text)); got != c.want {
			t.Errorf("Sum(%q) = %#x, want %#x", c.text, got, c.want)
		}
	}
	if Sum(nil) != Sum([]byte{}) {
		t.Error("nil and empty differ")
	}
}

func TestSumIsTheChapters(t *testing.T) {
	table := crc32.MakeTable(crc32.Castagnoli)
	w := walk(1)
	for n := range 300 {
		b := w.bytes(n)
		if got := Sum(b); got != slow(0, b) || got != crc32.Checksum(b, table) {
			t.Fatalf("Sum of %d bytes = %#x, want %#x", n, got, slow(0, b))
		}
	}
	for c := range 256 {
		b := []byte{byte(c)}
		if Sum(b) != slow(0, b) {
			t.Errorf("Sum of the byte %d", c)
		}
	}
}

func TestSumOfManyBytes(t *testing.T) {
	w := walk(2)
	b := w.bytes(1 << 20)
	if Sum(b) != crc32.Checksum(b, crc32.MakeTable(crc32.Castagnoli)) {
		t.Error("Sum of 2^20 bytes")
	}
}

func TestMoreGoesOn(t *testing.T) {
	w := walk(3)
	b := w.bytes(60)
	for i := range len(b) + 1 {
		if More(Sum(b[:i]), b[i:]) != Sum(b) {
			t.Errorf("More behind %d bytes", i)
		}
	}
}

func TestMoreOfAnyNumber(t *testing.T) {
	w := walk(4)
	sums := edges()
	for range 200 {
		sums = append(sums, w.next())
	}
	for i, s := range sums {
		if More(s, nil) != s || More(s, []byte{}) != s {
			t.Errorf("More(%#x) of no bytes", s)
		}
		b := w.bytes(i % 9)
		if More(s, b) != slow(s, b) {
			t.Errorf("More(%#x, %v) = %#x, want %#x", s, b, More(s, b), slow(s, b))
		}
	}
}

func TestLessUndoesOneByte(t *testing.T) {
	b := []byte("123456789")
	for i := range b {
		if Less(Sum(b[:i+1]), b[i]) != Sum(b[:i]) {
			t.Errorf("Less at %d", i)
		}
	}
	for _, s := range edges() {
		for c := range 256 {
			one := []byte{byte(c)}
			if slow(Less(s, byte(c)), one) != s {
				t.Errorf("More(Less(%#x, %d)) isn't it", s, c)
			}
			if Less(slow(s, one), byte(c)) != s {
				t.Errorf("Less(More(%#x, %d)) isn't it", s, c)
			}
		}
	}
}

func TestPatchLeadsToWant(t *testing.T) {
	w := walk(5)
	sums := edges()
	for range 50 {
		sums = append(sums, w.next())
	}
	for _, s := range sums {
		for _, want := range sums {
			p := Patch(s, want)
			if slow(s, p[:]) != want {
				t.Fatalf("Patch(%#x, %#x) = %v leads to %#x", s, want, p, slow(s, p[:]))
			}
		}
	}
}

func TestPatchIsTheOnlyOne(t *testing.T) {
	w := walk(6)
	for range 500 {
		s, b := w.next(), [4]byte(w.bytes(4))
		if Patch(s, slow(s, b[:])) != b {
			t.Fatalf("Patch(%#x) of what %v leads to = %v", s, b, Patch(s, slow(s, b[:])))
		}
	}
}

// turned is b with the bits of x turned from the bit at on, the lowest of a byte first.
func turned(b []byte, at int, x uint32) []byte {
	c := bytes.Clone(b)
	for i := range 32 {
		if x>>i&1 == 1 {
			c[(at+i)/8] ^= 1 << ((at + i) % 8)
		}
	}
	return c
}

func TestChangesWithin32BitsAreSeen(t *testing.T) {
	w := walk(7)
	b := w.bytes(20)
	want := Sum(b)
	for at := range 8*len(b) - 31 {
		changes := []uint32{0xffffffff, 0x80000001, 0x82f63b78, 0x05ec76f1, 0x1edc6f41}
		for i := range 32 {
			changes = append(changes, 1<<i)
		}
		for range 20 {
			changes = append(changes, w.next())
		}
		for _, x := range changes {
			if x != 0 && Sum(turned(b, at, x)) == want {
				t.Fatalf("turned by %#x at bit %d: the same sum", x, at)
			}
		}
	}
}

func TestBytesAreLeftAsTheyAre(t *testing.T) {
	room := []byte{1, 2, 3, 4, 5, 6}
	b := room[1:3]
	Sum(b)
	More(7, b)
	if !bytes.Equal(room, []byte{1, 2, 3, 4, 5, 6}) {
		t.Error("the bytes were changed:", room)
	}
}
