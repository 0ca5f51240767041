package bits

import (
	"bytes"
	"math"
	"math/big"
	"math/rand"
	"strings"
	"testing"
)

// told is a writer's bits as a text, once its bytes were held against them.
func told(t *testing.T, w *Writer) string {
	t.Helper()
	var text strings.Builder
	for _, b := range w.Bytes() {
		for i := 7; i >= 0; i-- {
			text.WriteByte('0' + b>>i&1)
		}
	}
	all, n := text.String(), w.Len()
	if len(all) != (n+7)/8*8 {
		t.Fatalf("%d bits are in %d bytes", n, len(all)/8)
	}
	if strings.Contains(all[n:], "1") {
		t.Fatalf("behind %d bits stand not only noughts: %s", n, all)
	}
	return all[:n]
}

// numText is a number's bits, by the document's words alone.
func numText(x *big.Int) string {
	text := new(big.Int).Add(x, big.NewInt(1)).Text(2)
	return strings.Repeat("0", len(text)-1) + text
}

// intText is the bits of a number that may be below nought, by the document's words alone.
func intText(x int) string {
	twice := new(big.Int).Mul(big.NewInt(int64(x)), big.NewInt(2))
	if x < 0 {
		twice.Neg(twice).Sub(twice, big.NewInt(1))
	}
	return numText(twice)
}

func nums() []uint64 {
	list := []uint64{0, 1, 2, 3, 4, 1<<63 - 2, 1<<63 - 1, 1 << 63, 1<<64 - 3, 1<<64 - 2, 1<<64 - 1}
	for i := range 64 {
		list = append(list, 1<<i-1, 1<<i, 1<<i+1)
	}
	source := rand.New(rand.NewSource(1))
	for range 500 {
		list = append(list, source.Uint64()>>source.Intn(64))
	}
	return list
}

func ints() []int {
	list := []int{0, 1, -1, 2, -2, 300, math.MaxInt, math.MaxInt - 1, math.MinInt, math.MinInt + 1}
	for _, x := range nums() {
		list = append(list, int(x), -int(x))
	}
	return list
}

func TestPutWritesTheLowestBits(t *testing.T) {
	for _, c := range []struct {
		x    uint64
		n    int
		want string
	}{
		{5, 3, "101"},
		{5, 1, "1"},
		{5, 2, "01"},
		{5, 6, "000101"},
		{0, 0, ""},
		{math.MaxUint64, 0, ""},
		{math.MaxUint64, -1, ""},
		{math.MaxUint64, math.MinInt, ""},
		{math.MaxUint64, 9, "111111111"},
		{1 << 63, 64, "1" + strings.Repeat("0", 63)},
		{1<<63 | 1, 65, "1" + strings.Repeat("0", 62) + "1"},
		{6, math.MaxInt, strings.Repeat("0", 61) + "110"},
		{1<<63 | 1, 63, strings.Repeat("0", 62) + "1"},
	} {
		w := &Writer{}
		w.Put(c.x, c.n)
		if got := told(t, w); got != c.want {
			t.Errorf("Put(%d, %d): %q, want %q", c.x, c.n, got, c.want)
		}
	}
}

func TestNumWritesNoughtsAheadOfBits(t *testing.T) {
	for _, c := range []struct {
		x    uint64
		want string
	}{
		{0, "1"},
		{1, "010"},
		{2, "011"},
		{4, "00101"},
		{1<<64 - 2, strings.Repeat("0", 63) + strings.Repeat("1", 64)},
		{1<<64 - 1, strings.Repeat("0", 64) + "1" + strings.Repeat("0", 64)},
	} {
		w := &Writer{}
		w.Num(c.x)
		if got := told(t, w); got != c.want {
			t.Errorf("Num(%d): %q, want %q", c.x, got, c.want)
		}
	}
	for _, x := range nums() {
		w := &Writer{}
		w.Num(x)
		if got, want := told(t, w), numText(new(big.Int).SetUint64(x)); got != want {
			t.Errorf("Num(%d): %q, want %q", x, got, want)
		}
	}
}

func TestIntWritesTwiceTheNumber(t *testing.T) {
	for _, x := range ints() {
		w := &Writer{}
		w.Int(x)
		if got, want := told(t, w), intText(x); got != want {
			t.Errorf("Int(%d): %q, want %q", x, got, want)
		}
	}
}

func TestWriterPutsBehindWhatItHas(t *testing.T) {
	source := rand.New(rand.NewSource(2))
	w, want := &Writer{}, ""
	for range 2000 {
		x, n := source.Uint64(), source.Intn(65)
		switch source.Intn(3) {
		case 0:
			w.Put(x, n)
			text := new(big.Int).SetUint64(x).Text(2)
			text = strings.Repeat("0", 64) + text
			want += text[len(text)-n:]
		case 1:
			w.Num(x >> n)
			want += numText(new(big.Int).SetUint64(x >> n))
		case 2:
			w.Int(int(x) >> n)
			want += intText(int(x) >> n)
		}
		if w.Len() != len(want) {
			t.Fatalf("Len %d, want %d", w.Len(), len(want))
		}
	}
	if told(t, w) != want {
		t.Error("the bits differ")
	}
}

func TestTheDocumentsExample(t *testing.T) {
	w := &Writer{}
	w.Num(0)
	w.Num(1)
	w.Num(4)
	w.Put(5, 3)
	if w.Len() != 12 || !bytes.Equal(w.Bytes(), []byte{162, 208}) {
		t.Error(w.Len(), w.Bytes())
	}
}

func TestTheZeroWriterIsEmpty(t *testing.T) {
	var w Writer
	if w.Len() != 0 || len(w.Bytes()) != 0 {
		t.Error(w.Len(), w.Bytes())
	}
}

func TestBytesAreNewMemory(t *testing.T) {
	w := &Writer{}
	w.Put(0xabc, 12)
	first, second := w.Bytes(), w.Bytes()
	first[0], first[1] = 0, 0xff
	if want := []byte{0xab, 0xc0}; !bytes.Equal(second, want) || !bytes.Equal(w.Bytes(), want) {
		t.Error("a change of what was answered is seen", second, w.Bytes())
	}
	w.Put(0xf, 4)
	w.Put(0x1, 8)
	if !bytes.Equal(second, []byte{0xab, 0xc0}) || !bytes.Equal(w.Bytes(), []byte{0xab, 0xcf, 0x01}) {
		t.Error("writing goes on in what was answered", second, w.Bytes())
	}
	_ = append(w.Bytes()[:1], 9, 9)
	if !bytes.Equal(w.Bytes(), []byte{0xab, 0xcf, 0x01}) {
		t.Error("the room behind the answer is the writer's", w.Bytes())
	}
}

func TestWritersNeverMeet(t *testing.T) {
	a, b := &Writer{}, &Writer{}
	for i := range 100 {
		a.Put(uint64(i), 7)
		b.Put(uint64(99-i), 7)
	}
	ra, rb := Read(a.Bytes()), Read(b.Bytes())
	for i := range 100 {
		if ra.Get(7) != uint64(i) || rb.Get(7) != uint64(99-i) {
			t.Fatal("at", i)
		}
	}
}

func TestNilWriterDoesNothing(t *testing.T) {
	var w *Writer
	w.Put(1, 1)
	w.Num(1)
	w.Int(-1)
	if w.Len() != 0 || len(w.Bytes()) != 0 {
		t.Error(w.Len(), w.Bytes())
	}
}
