package bits

import (
	"bytes"
	"math"
	"math/big"
	"math/rand"
	"strings"
	"testing"

	"crucible/api"
)

// readerOf is a reader before which just these bits lie: what fills the first byte was taken.
func readerOf(t *testing.T, text string) *Reader {
	t.Helper()
	fill := (8 - len(text)%8) % 8
	w := &Writer{}
	w.Put(0, fill)
	for _, c := range text {
		w.Put(uint64(c-'0'), 1)
	}
	r := Read(w.Bytes())
	r.Get(fill)
	if r.Left() != len(text) {
		t.Fatalf("%d bits are left of %q", r.Left(), text)
	}
	return r
}

// holdStopped asks a reader for everything: from the first thing that can't be taken on, nothing may come.
func holdStopped(t *testing.T, r *Reader, want api.Errno) {
	t.Helper()
	for range 2 {
		if r.Left() != 0 || r.Get(0) != 0 || r.Get(1) != 0 || r.Get(64) != 0 || r.Num() != 0 || r.Int() != 0 {
			t.Error("a stopped reader answers something")
		}
		if r.Err() != want || r.End() != want {
			t.Errorf("Err %d, End %d, want %d", r.Err(), r.End(), want)
		}
		r.Fail(api.ErrLost)
	}
}

func TestGetTakesFromTheFront(t *testing.T) {
	r := Read([]byte{0b10110011, 0b01010101, 0xff, 0xff})
	for _, c := range []struct {
		n    int
		want uint64
		left int
	}{
		{0, 0, 32}, {-1, 0, 32}, {math.MinInt, 0, 32},
		{1, 1, 31}, {3, 0b011, 28}, {9, 0b001101010, 19}, {19, 0b1011111111111111111, 0},
		{0, 0, 0}, {-7, 0, 0},
	} {
		if got := r.Get(c.n); got != c.want || r.Left() != c.left || r.Err() != api.OK {
			t.Errorf("Get(%d): %b, %d left, error %d", c.n, got, r.Left(), r.Err())
		}
	}
	if r.Get(1) != 0 {
		t.Error("a bit of nothing")
	}
	holdStopped(t, r, api.ErrShort)
}

func TestGetOfMoreThan64Is64(t *testing.T) {
	b := []byte{1, 2, 3, 4, 5, 6, 7, 8, 9}
	for _, n := range []int{64, 65, math.MaxInt} {
		r := Read(b)
		if got := r.Get(n); got != 0x0102030405060708 || r.Left() != 8 || r.Err() != api.OK {
			t.Errorf("Get(%d): %x, %d left, error %d", n, got, r.Left(), r.Err())
		}
	}
}

func TestGetOfTooManyStops(t *testing.T) {
	for _, c := range []struct{ have, want int }{{0, 1}, {7, 8}, {12, 13}, {63, 64}, {63, math.MaxInt}} {
		r := readerOf(t, strings.Repeat("1", c.have))
		if got := r.Get(c.want); got != 0 {
			t.Errorf("Get(%d) of %d bits: %d", c.want, c.have, got)
		}
		holdStopped(t, r, api.ErrShort)
	}
}

func TestNumTakesANumber(t *testing.T) {
	for _, x := range nums() {
		r := readerOf(t, numText(new(big.Int).SetUint64(x))+"1011")
		if got := r.Num(); got != x || r.Left() != 4 || r.Err() != api.OK {
			t.Errorf("Num of %d: %d, %d left, error %d", x, got, r.Left(), r.Err())
		}
	}
}

func TestIntTakesANumber(t *testing.T) {
	for _, x := range ints() {
		r := readerOf(t, intText(x)+"1011")
		if got := r.Int(); got != x || r.Left() != 4 || r.Err() != api.OK {
			t.Errorf("Int of %d: %d, %d left, error %d", x, got, r.Left(), r.Err())
		}
	}
}

func TestNumThatEndsTooSoon(t *testing.T) {
	for _, x := range []uint64{0, 1, 2, 4, 200, 1 << 40, 1<<63 - 1, 1 << 63, 1<<64 - 2, 1<<64 - 1} {
		whole := numText(new(big.Int).SetUint64(x))
		for n := range len(whole) {
			r := readerOf(t, whole[:n])
			if got := r.Num(); got != 0 {
				t.Errorf("Num of %q: %d", whole[:n], got)
			}
			holdStopped(t, r, api.ErrShort)
			r = readerOf(t, whole[:n])
			if got := r.Int(); got != 0 {
				t.Errorf("Int of %q: %d", whole[:n], got)
			}
			holdStopped(t, r, api.ErrShort)
		}
	}
}

func TestNumThatIsNone(t *testing.T) {
	noughts := strings.Repeat("0", 64)
	type text struct {
		bits string
		want api.Errno
	}
	texts := []text{
		{noughts, api.ErrShort},
		{noughts + "0", api.ErrForm},
		{noughts + "01", api.ErrForm},
		{noughts + noughts + noughts, api.ErrForm},
		{noughts + "1" + noughts[:63] + "1", api.ErrForm},
		{noughts + "1" + strings.Repeat("1", 64) + "0101", api.ErrForm},
		// Fewer than 64 bits stand behind the 1: what they are doesn't count.
		{noughts + "1" + strings.Repeat("1", 63), api.ErrShort},
		{noughts + "1" + "1", api.ErrShort},
		{noughts + "1", api.ErrShort},
	}
	for i := range 64 {
		texts = append(texts, text{noughts + "1" + noughts[:i] + "1" + noughts[i+1:], api.ErrForm})
	}
	for _, c := range texts {
		r := readerOf(t, c.bits)
		if got := r.Num(); got != 0 {
			t.Errorf("Num of %q: %d", c.bits, got)
		}
		holdStopped(t, r, c.want)
		r = readerOf(t, c.bits)
		if got := r.Int(); got != 0 {
			t.Errorf("Int of %q: %d", c.bits, got)
		}
		holdStopped(t, r, c.want)
	}
}

func TestFailStops(t *testing.T) {
	for _, e := range []api.Errno{api.ErrKind, api.ErrShort, api.Errno(-7), api.Errno(1000), api.OK} {
		r := Read([]byte{255, 255, 255})
		r.Get(3)
		r.Fail(e)
		holdStopped(t, r, e)
	}
	r := Read(nil)
	r.Get(1)
	r.Fail(api.ErrKind)
	holdStopped(t, r, api.ErrShort)
}

func TestEndTellsWhatIsLeft(t *testing.T) {
	for _, c := range []struct {
		bits string
		want api.Errno
	}{
		{"", api.OK},
		{"0", api.OK},
		{"1", api.ErrTrail},
		{"0000000", api.OK},
		{"0000001", api.ErrTrail},
		{"1000000", api.ErrTrail},
		{"0001000", api.ErrTrail},
		{"00000000", api.ErrTrail},
		{"10000000", api.ErrTrail},
		{"000000000", api.ErrTrail},
		{strings.Repeat("0", 64), api.ErrTrail},
	} {
		r := readerOf(t, c.bits)
		if r.End() != c.want || r.End() != c.want {
			t.Errorf("End of %q: %d, want %d", c.bits, r.End(), c.want)
		}
		if r.Err() != api.OK || r.Left() != len(c.bits) {
			t.Errorf("End of %q has stopped it", c.bits)
		}
		for i, want := range c.bits {
			if r.Get(1) != uint64(want-'0') {
				t.Errorf("End of %q has changed bit %d", c.bits, i)
			}
		}
		if r.End() != api.OK {
			t.Errorf("End behind all of %q: %d", c.bits, r.End())
		}
	}
}

func TestReadNeitherKeepsNorChanges(t *testing.T) {
	whole := []byte{1, 2, 3, 4}
	b := whole[:2]
	r := Read(b)
	whole[0], whole[1], whole[2] = 9, 9, 9
	if r.Left() != 16 || r.Get(16) != 0x0102 {
		t.Error("what was handed in is kept")
	}
	if !bytes.Equal(whole, []byte{9, 9, 9, 4}) {
		t.Error("what was handed in is changed", whole)
	}
}

func TestReadersNeverMeet(t *testing.T) {
	b := []byte{0xf0}
	one, other := Read(b), Read(b)
	one.Fail(api.ErrKind)
	if other.Get(4) != 0xf || other.Left() != 4 || other.Err() != api.OK {
		t.Error("one reader has stopped the other")
	}
}

func TestReadOfNothing(t *testing.T) {
	for _, b := range [][]byte{nil, {}} {
		r := Read(b)
		if r.Left() != 0 || r.Err() != api.OK || r.End() != api.OK || r.Get(0) != 0 || r.Err() != api.OK {
			t.Error("a reader of nothing isn't at its end")
		}
		r.Num()
		holdStopped(t, r, api.ErrShort)
	}
}

func TestNilReaderAnswersErrArg(t *testing.T) {
	var r *Reader
	holdStopped(t, r, api.ErrArg)
}

// TestWrittenIsRead takes from a reader, thing by thing, what was put, and asks for its end.
func TestWrittenIsRead(t *testing.T) {
	type thing struct {
		kind int
		x    uint64
		n    int
	}
	source := rand.New(rand.NewSource(3))
	for range 300 {
		w := &Writer{}
		things := make([]thing, source.Intn(40))
		for i := range things {
			c := thing{source.Intn(3), source.Uint64() >> source.Intn(65), source.Intn(65)}
			things[i] = c
			switch c.kind {
			case 0:
				w.Put(c.x, c.n)
			case 1:
				w.Num(c.x)
			case 2:
				w.Int(int(c.x))
			}
		}
		r, left := Read(w.Bytes()), 8*len(w.Bytes())
		for _, c := range things {
			switch c.kind {
			case 0:
				low := c.x & (1<<c.n - 1)
				if got := r.Get(c.n); got != low {
					t.Fatalf("Get(%d): %d, want %d", c.n, got, low)
				}
			case 1:
				if got := r.Num(); got != c.x {
					t.Fatalf("Num: %d, want %d", got, c.x)
				}
			case 2:
				if got := r.Int(); got != int(c.x) {
					t.Fatalf("Int: %d, want %d", got, int(c.x))
				}
			}
		}
		if r.Left() != left-w.Len() || r.Err() != api.OK || r.End() != api.OK {
			t.Fatalf("%d left, Err %d, End %d", r.Left(), r.Err(), r.End())
		}
	}
}

// TestANumberHasOneForm reads any bytes: each number that is told, written again, has the bits that it was read from.
func TestANumberHasOneForm(t *testing.T) {
	source := rand.New(rand.NewSource(4))
	for range 2000 {
		b := make([]byte, source.Intn(30))
		for i := range b {
			b[i] = byte(source.Intn(256)) & byte(source.Intn(256)) & byte(-source.Intn(2))
		}
		r, w := Read(b), &Writer{}
		for {
			x := r.Num()
			if r.Err() != api.OK {
				break
			}
			w.Num(x)
			if r.Left() != 8*len(b)-w.Len() {
				t.Fatalf("%v: the number %d was read from other bits", b, x)
			}
		}
		again := Read(b)
		for _, c := range told(t, w) {
			if again.Get(1) != uint64(c-'0') {
				t.Fatalf("%v: written again it is %v", b, w.Bytes())
			}
		}
	}
}
