package frame

import (
	"bytes"
	"encoding/binary"
	"hash/crc32"
	"math"
	"slices"
	"testing"

	"crucible/api"
)

var castagnoli = crc32.MakeTable(crc32.Castagnoli)

func sum(b []byte) uint32 { return crc32.Checksum(b, castagnoli) }

// bytesOf is the chapter's text: what a frame of any first four bytes would have.
func bytesOf(first uint32, data []byte) []byte {
	b := binary.BigEndian.AppendUint32(nil, first)
	b = binary.BigEndian.AppendUint32(b, sum(b))
	b = binary.BigEndian.AppendUint32(b, sum(append(bytes.Clone(b), data...)))
	return append(b, data...)
}

func text(n int) []byte {
	b := make([]byte, n)
	for i := range b {
		b[i] = byte(i*i>>3 + 7*i)
	}
	return b
}

func must(t *testing.T, f Frame) []byte {
	t.Helper()
	b, e := Encode(f)
	if e != api.OK {
		t.Fatal("Encode", e)
	}
	return b
}

func same(f, g Frame) bool { return f.Kind == g.Kind && bytes.Equal(f.Data, g.Data) }

func lengths() []int { return []int{0, 1, 2, 3, 4, 5, 12, 13, 100, 255, 256, 65535, 65536} }

func kinds() []int { return []int{0, 1, 7, 127, 128, 254, 255} }

func TestEncodeIsTheChapters(t *testing.T) {
	for _, n := range lengths() {
		for _, k := range kinds() {
			want := bytesOf(uint32(k)<<24+uint32(n), text(n))
			if got := must(t, Frame{Kind: k, Data: text(n)}); !bytes.Equal(got, want) {
				t.Errorf("Encode of kind %d and %d bytes", k, n)
			}
		}
	}
	if Ahead != 12 {
		t.Error("Ahead", Ahead)
	}
}

func TestEncodeOfNoData(t *testing.T) {
	b := must(t, Frame{Kind: 1})
	if len(b) != 12 || !bytes.Equal(b[:4], []byte{1, 0, 0, 0}) {
		t.Error("Encode of kind 1 and no data:", b)
	}
	if !bytes.Equal(b, must(t, Frame{Kind: 1, Data: []byte{}})) {
		t.Error("nil and empty differ")
	}
}

func TestEncodeRefuses(t *testing.T) {
	for _, c := range []struct {
		kind, size int
		want       api.Errno
	}{
		{-1, 0, api.ErrKind},
		{256, 0, api.ErrKind},
		{math.MinInt, 0, api.ErrKind},
		{math.MaxInt, 0, api.ErrKind},
		{1 << 32, 0, api.ErrKind},
		{256, api.MaxBytes + 1, api.ErrKind},
		{-1, api.MaxBytes + 1, api.ErrKind},
		{0, api.MaxBytes + 1, api.ErrLong},
		{255, api.MaxBytes + 1, api.ErrLong},
		{255, 1 << 24, api.ErrLong},
	} {
		if b, e := Encode(Frame{c.kind, make([]byte, c.size)}); e != c.want || len(b) != 0 {
			t.Errorf("Encode of kind %d and %d bytes: %d bytes, %d, want %d", c.kind, c.size, len(b), e, c.want)
		}
	}
}

func TestDecodeUndoesEncode(t *testing.T) {
	for _, n := range lengths() {
		for _, k := range kinds() {
			f := Frame{Kind: k, Data: text(n)}
			b := must(t, f)
			for _, more := range []int{0, 1, 40} {
				g, size, e := Decode(append(bytes.Clone(b), text(more)...))
				if e != api.OK || size != len(b) || !same(f, g) {
					t.Errorf("Decode of kind %d, %d bytes, %d behind: %d, %d", k, n, more, size, e)
				}
			}
		}
	}
}

func TestDecodeOfEachBeginning(t *testing.T) {
	b := must(t, Frame{Kind: 3, Data: text(9)})
	for n := range len(b) {
		if f, size, e := Decode(b[:n]); e != api.ErrShort || size != 0 || f.Kind != 0 || len(f.Data) != 0 {
			t.Errorf("Decode of the first %d bytes: %v, %d, %d", n, f, size, e)
		}
	}
	if _, _, e := Decode(nil); e != api.ErrShort {
		t.Error("Decode of nothing:", e)
	}
}

// turn is b with the byte at turned.
func turn(b []byte, at int) []byte {
	c := bytes.Clone(b)
	c[at] ^= 0x55
	return c
}

func TestDecodeRefuses(t *testing.T) {
	good := bytesOf(2<<24+5, text(5))
	long := bytesOf(2<<24+65537, text(65537))
	for _, c := range []struct {
		name string
		b    []byte
		want api.Errno
	}{
		{"seven bytes of a wrong sum", turn(good, 4)[:7], api.ErrShort},
		{"eight bytes of a wrong sum", turn(good, 4)[:8], api.ErrSum},
		{"eight bytes of another kind", turn(good, 0)[:8], api.ErrSum},
		{"a wrong sum and too long", turn(long, 7), api.ErrSum},
		{"eight bytes, too long", long[:8], api.ErrLong},
		{"too long and short", long[:65548], api.ErrLong},
		{"too long and whole", long, api.ErrLong},
		{"too long and a wrong third sum", turn(long, 9), api.ErrLong},
		{"the longest there is, eight bytes", bytesOf(0xffffffff, nil)[:8], api.ErrLong},
		{"eight bytes", good[:8], api.ErrShort},
		{"eleven bytes, a wrong third sum", turn(good, 8)[:11], api.ErrShort},
		{"one byte less, a wrong third sum", turn(good, 8)[:16], api.ErrShort},
		{"a wrong third sum", turn(good, 8), api.ErrSum},
		{"wrong data", turn(good, 16), api.ErrSum},
		{"wrong data, and more behind", append(turn(good, 12), 1, 2, 3), api.ErrSum},
	} {
		if f, n, e := Decode(c.b); e != c.want || n != 0 || f.Kind != 0 || len(f.Data) != 0 {
			t.Errorf("%s: kind %d, %d bytes, %d, %d, want %d", c.name, f.Kind, len(f.Data), n, e, c.want)
		}
	}
}

func TestThirdSumCoversTheFirstEight(t *testing.T) {
	b := must(t, Frame{Kind: 1, Data: text(6)})
	for _, part := range [][]byte{b[12:], append(bytes.Clone(b[:4]), b[12:]...), b[:8]} {
		c := bytes.Clone(b)
		binary.BigEndian.PutUint32(c[8:], sum(part))
		if _, _, e := Decode(c); e != api.ErrSum {
			t.Error("a third sum of something else:", e)
		}
	}
}

func TestScan(t *testing.T) {
	fs := []Frame{{Kind: 0}, {Kind: 255, Data: text(30)}, {Kind: 9, Data: text(1)}, {Kind: 0}}
	var b []byte
	ends := []int{0}
	for _, f := range fs {
		b = append(b, must(t, f)...)
		ends = append(ends, len(b))
	}
	for n := range len(b) + 1 {
		whole := 0
		for whole < len(fs) && ends[whole+1] <= n {
			whole++
		}
		want := api.ErrShort
		if ends[whole] == n {
			want = api.OK
		}
		got, end, e := Scan(b[:n])
		if e != want || end != ends[whole] || !slices.EqualFunc(got, fs[:whole], same) {
			t.Errorf("Scan of %d bytes: %d frames, %d, %d", n, len(got), end, e)
		}
	}
}

func TestScanOfTheExample(t *testing.T) {
	b := must(t, Frame{Kind: 1})
	two := append(bytes.Clone(b), b...)
	if fs, end, e := Scan(two[:23]); len(fs) != 1 || end != 12 || e != api.ErrShort {
		t.Error("twice, less its last byte:", fs, end, e)
	}
	if fs, end, e := Scan(nil); len(fs) != 0 || end != 0 || e != api.OK {
		t.Error("nothing:", fs, end, e)
	}
}

func TestScanEndsAtDecodesError(t *testing.T) {
	first := must(t, Frame{Kind: 1, Data: text(3)})
	next := must(t, Frame{Kind: 2, Data: text(4)})
	for _, c := range []struct {
		name string
		b    []byte
		want api.Errno
	}{
		{"a wrong second sum", turn(next, 5), api.ErrSum},
		{"a wrong third sum", turn(next, 10), api.ErrSum},
		{"too long", bytesOf(0x0002ffff, text(3)), api.ErrLong},
		{"short", next[:10], api.ErrShort},
	} {
		// A whole frame behind the bad one is not looked for.
		b := slices.Concat(first, c.b, first)
		if c.want == api.ErrShort {
			b = slices.Concat(first, c.b)
		}
		fs, end, e := Scan(b)
		if e != c.want || end != len(first) || len(fs) != 1 || fs[0].Kind != 1 || !bytes.Equal(fs[0].Data, text(3)) {
			t.Errorf("%s: %d frames, %d, %d", c.name, len(fs), end, e)
		}
		if fs, end, e := Scan(b[len(first):]); e != c.want || end != 0 || len(fs) != 0 {
			t.Errorf("%s at the front: %d frames, %d, %d", c.name, len(fs), end, e)
		}
	}
}

func TestAll(t *testing.T) {
	fs := []Frame{{Kind: 4, Data: text(65536)}, {Kind: 0}, {Kind: 255, Data: text(2)}}
	want := slices.Concat(must(t, fs[0]), must(t, fs[1]), must(t, fs[2]))
	b, e := All(fs)
	if e != api.OK || !bytes.Equal(b, want) {
		t.Error("All:", len(b), e)
	}
	got, end, e := Scan(b)
	if e != api.OK || end != len(b) || !slices.EqualFunc(got, fs, same) {
		t.Error("Scan of All:", len(got), end, e)
	}
	if b, e := All(nil); e != api.OK || len(b) != 0 {
		t.Error("All of nothing:", b, e)
	}
}

func TestAllAnswersTheFirstError(t *testing.T) {
	good, kind, long := Frame{Kind: 1}, Frame{Kind: 256}, Frame{Data: make([]byte, 65537)}
	for _, c := range []struct {
		fs   []Frame
		want api.Errno
	}{
		{[]Frame{good, kind}, api.ErrKind},
		{[]Frame{good, long, good}, api.ErrLong},
		{[]Frame{long, kind}, api.ErrLong},
		{[]Frame{kind, long}, api.ErrKind},
	} {
		if b, e := All(c.fs); e != c.want || len(b) != 0 {
			t.Errorf("All of %d frames: %d bytes, %d, want %d", len(c.fs), len(b), e, c.want)
		}
	}
}

func TestOneByteTurnedMakesItNone(t *testing.T) {
	for _, n := range []int{0, 1, 5, 20} {
		b := must(t, Frame{Kind: 6, Data: text(n)})
		for at := range b {
			for x := 1; x < 256; x++ {
				c := bytes.Clone(b)
				c[at] ^= byte(x)
				// More room behind it: a greater length must not be what saves it.
				if _, _, e := Decode(append(c, make([]byte, 300)...)); e == api.OK {
					t.Fatalf("%d bytes of data, byte %d turned by %d: a frame", n, at, x)
				}
			}
		}
	}
}

func TestDataChangedWithin32BitsMakesItNone(t *testing.T) {
	b := must(t, Frame{Kind: 6, Data: text(16)})
	x := uint32(1)
	for at := range 8*16 - 31 {
		for turn := range 60 {
			x = x*1664525 + 1013904223
			change := []uint32{x | 1, 1 << (turn % 32), 0xffffffff, 0x82f63b78}[turn%4]
			c := bytes.Clone(b)
			for i := range 32 {
				if change>>i&1 == 1 {
					c[Ahead+(at+i)/8] ^= 1 << ((at + i) % 8)
				}
			}
			if _, _, e := Decode(c); e != api.ErrSum {
				t.Fatalf("turned by %#x at bit %d: %d", change, at, e)
			}
		}
	}
}

func TestNothingIsSharedOrChanged(t *testing.T) {
	room := text(40)
	f := Frame{Kind: 1, Data: room[3:9]}
	b := must(t, f)
	all, _ := All([]Frame{f, f})
	if !bytes.Equal(room, text(40)) {
		t.Error("the data or the room behind it was changed")
	}
	clear(b[Ahead:])
	clear(all)
	if !bytes.Equal(room, text(40)) {
		t.Error("an answer shares its data's memory")
	}
	all, _ = All([]Frame{f, f})
	kept := bytes.Clone(all)
	fs, _, _ := Scan(all[:len(all):len(all)])
	g, _, _ := Decode(all)
	for _, d := range [][]byte{g.Data, fs[0].Data} {
		clear(append(d, 1, 2, 3, 4, 5, 6, 7, 8)[:len(d)+8])
		clear(d)
	}
	if !bytes.Equal(all, kept) || !bytes.Equal(fs[1].Data, f.Data) {
		t.Error("answers share memory with the bytes, or with one another")
	}
}
