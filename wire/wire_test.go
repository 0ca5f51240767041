package wire_test

import (
	"bytes"
	"encoding/binary"
	"hash/crc32"
	"math"
	"math/rand"
	"slices"
	"testing"

	"crucible/api"
	"crucible/bits"
	"crucible/frame"
	"crucible/wire"
)

var castagnoli = crc32.MakeTable(crc32.Castagnoli)

// framed is the bytes of a frame of any kind and content, too long or not.
func framed(kind int, data []byte) []byte {
	b := binary.BigEndian.AppendUint32(nil, uint32(kind)<<24+uint32(len(data)))
	b = binary.BigEndian.AppendUint32(b, crc32.Checksum(b, castagnoli))
	b = binary.BigEndian.AppendUint32(b, crc32.Checksum(append(bytes.Clone(b), data...), castagnoli))
	return append(b, data...)
}

// numbers is the bits of a message's numbers by the chapter's words, be it right or not.
func numbers(m wire.Msg) *bits.Writer {
	w := &bits.Writer{}
	for _, x := range []int{m.From, m.To, m.Shard, m.View, m.Normal, m.At, m.Commit, m.Id, m.Err} {
		w.Num(uint64(x))
	}
	return w
}

// putPart writes how many bytes there are, and each.
func putPart(w *bits.Writer, part []byte) {
	w.Num(uint64(len(part)))
	for _, c := range part {
		w.Put(uint64(c), 8)
	}
}

// form is the bits of a message but its kind, be it right or not.
func form(m wire.Msg) *bits.Writer {
	w := numbers(m)
	w.Num(uint64(len(m.List)))
	for _, part := range m.List {
		putPart(w, part)
	}
	putPart(w, m.Data)
	return w
}

// same: an empty list is as good as none.
func same(a, b wire.Msg) bool {
	return a.Kind == b.Kind && slices.Equal(numbers(a).Bytes(), numbers(b).Bytes()) && slices.EqualFunc(a.List, b.List, bytes.Equal) && bytes.Equal(a.Data, b.Data)
}

func holdMsg(t *testing.T, m wire.Msg) {
	t.Helper()
	want := framed(m.Kind, form(m).Bytes())
	b, e := wire.Encode(m)
	if e != api.OK || !bytes.Equal(b, want) {
		t.Fatalf("Encode(%v): %v, %d, want %v", m, b, e, want)
	}
	if back, e := wire.Decode(b); e != api.OK || !same(back, m) {
		t.Fatalf("Decode of %v: %v, %d", m, back, e)
	}
}

// holdRefused encodes a message that has an error.
func holdRefused(t *testing.T, name string, m wire.Msg, want api.Errno) {
	t.Helper()
	if b, e := wire.Encode(m); e != want || len(b) != 0 {
		t.Errorf("%s: %d bytes, %d, want %d", name, len(b), e, want)
	}
}

// holdBytes decodes bytes that have an error.
func holdBytes(t *testing.T, name string, b []byte, want api.Errno) {
	t.Helper()
	if m, e := wire.Decode(b); e != want || !same(m, wire.Msg{}) {
		t.Errorf("%s: %v, %d, want %d", name, m, e, want)
	}
}

// holdError decodes a frame whose content has an error.
func holdError(t *testing.T, name string, w *bits.Writer, want api.Errno) {
	t.Helper()
	holdBytes(t, name, framed(wire.Do, w.Bytes()), want)
}

// full is a message whose parts all differ.
func full() wire.Msg {
	return wire.Msg{Kind: wire.Do, From: 1, To: 2, Shard: 3, View: 4, Normal: 5, At: 6, Commit: 7, Id: 8, Err: 9, List: [][]byte{[]byte("one"), nil, []byte("three")}, Data: []byte("data")}
}

// many is a list of so many parts of so many bytes.
func many(n, size int) [][]byte {
	list := make([][]byte, n)
	for i := range list {
		list[i] = bytes.Repeat([]byte{byte(i)}, size)
	}
	return list
}

func TestConstants(t *testing.T) {
	for i, k := range []int{wire.Prep, wire.PrepOk, wire.Start, wire.Do, wire.New, wire.Ask, wire.Tell} {
		if k != i+1 {
			t.Errorf("kind %d: %d", i+1, k)
		}
	}
	if wire.MostList != 2000 || wire.MostData != 4000 {
		t.Error(wire.MostList, wire.MostData)
	}
}

func TestTheDocumentsExample(t *testing.T) {
	b, e := wire.Encode(wire.Msg{Kind: wire.Tell})
	if e != api.OK || len(b) != 14 || !bytes.Equal(b, framed(7, []byte{255, 224})) {
		t.Error(b, e)
	}
	m, e := wire.Decode(framed(7, []byte{255, 224}))
	if e != api.OK || !same(m, wire.Msg{Kind: wire.Tell}) {
		t.Error(m, e)
	}
	holdMsg(t, wire.Msg{Kind: wire.Tell, List: [][]byte{}, Data: []byte{}})
}

func TestBytesByHand(t *testing.T) {
	m := wire.Msg{Kind: wire.Ask, From: 1, To: 2, Shard: 3, View: 4, Normal: 0, At: 5, Commit: 6, Id: 0, Err: 7, List: [][]byte{{0xa5}, nil}, Data: []byte{0x3c}}
	// 010 011 00100 00101 1 00110 00111 1 0001000; 011; 010 10100101; 1; 010 00111100
	want := []byte{0b01001100, 0b10000101, 0b10011000, 0b11110001, 0b00001101, 0b01010010, 0b11010001, 0b11100000}
	if b, e := wire.Encode(m); e != api.OK || !bytes.Equal(b, framed(6, want)) {
		t.Errorf("%08b, %d", b, e)
	}
	holdMsg(t, m)
	holdMsg(t, full())
}

func TestKinds(t *testing.T) {
	for kind := range 256 {
		m := full()
		m.Kind = kind
		if kind >= 1 && kind <= 7 {
			holdMsg(t, m)
			continue
		}
		holdRefused(t, "kind", m, api.ErrKind)
		b := framed(kind, form(m).Bytes())
		holdBytes(t, "kind", b, api.ErrKind)
		// Ahead of all that the content has to say, and behind what the frame has.
		holdBytes(t, "kind, nothing", framed(kind, nil), api.ErrKind)
		holdBytes(t, "kind, noughts", framed(kind, make([]byte, 20)), api.ErrKind)
		holdBytes(t, "kind, trail", append(bytes.Clone(b), 0), api.ErrTrail)
		b[len(b)-1] ^= 1
		holdBytes(t, "kind, sum", b, api.ErrSum)
	}
	for _, kind := range []int{math.MinInt, -1, 256 + wire.Do, 1 << 32, 1<<32 + wire.Do, math.MaxInt} {
		m := full()
		m.Kind = kind
		holdRefused(t, "kind", m, api.ErrKind)
	}
}

// places is a message's numbers, in the chapter's order.
func places() []func(*wire.Msg) *int {
	return []func(*wire.Msg) *int{
		func(m *wire.Msg) *int { return &m.From },
		func(m *wire.Msg) *int { return &m.To },
		func(m *wire.Msg) *int { return &m.Shard },
		func(m *wire.Msg) *int { return &m.View },
		func(m *wire.Msg) *int { return &m.Normal },
		func(m *wire.Msg) *int { return &m.At },
		func(m *wire.Msg) *int { return &m.Commit },
		func(m *wire.Msg) *int { return &m.Id },
		func(m *wire.Msg) *int { return &m.Err },
	}
}

func TestNumbers(t *testing.T) {
	for i, place := range places() {
		for _, x := range []int{0, 1, 2, 255, 1 << 20, 1<<32 + 1, api.MaxTime - 1, api.MaxTime} {
			m := full()
			*place(&m) = x
			holdMsg(t, m)
			m = wire.Msg{Kind: wire.Start}
			*place(&m) = x
			holdMsg(t, m)
		}
		for _, x := range []int{math.MinInt, -1 << 40, -1, api.MaxTime + 1, 1 << 41, math.MaxInt} {
			m := full()
			*place(&m) = x
			holdRefused(t, "number", m, api.ErrArg)
			holdError(t, "number", form(m), api.ErrArg)
			// Right behind it: what follows is nothing to it.
			w := &bits.Writer{}
			for range i {
				w.Num(3)
			}
			w.Num(uint64(x))
			holdError(t, "number, end", w, api.ErrArg)
			w.Put(0, 64)
			w.Put(0, 64)
			holdError(t, "number, noughts", w, api.ErrArg)
		}
	}
}

func TestHowManyInTheList(t *testing.T) {
	for _, n := range []int{0, 1, 2, 3, 100, 1999, 2000} {
		m := full()
		m.List = many(n, n%7)
		holdMsg(t, m)
	}
	for _, n := range []int{2001, 2002, 4000, 1 << 16} {
		m := full()
		m.List = many(n, 0)
		holdRefused(t, "list", m, api.ErrMany)
		holdError(t, "list", form(m), api.ErrMany)
	}
	for _, n := range []uint64{2001, 1 << 20, 1<<32 + 1, 1 << 63, math.MaxUint64} {
		w := numbers(full())
		w.Num(n)
		holdError(t, "list, end", w, api.ErrMany)
		w.Put(0, 64)
		w.Put(0, 64)
		holdError(t, "list, noughts", w, api.ErrMany)
	}
	w := numbers(full())
	w.Num(2000)
	holdError(t, "list, end", w, api.ErrShort)
}

func TestHowManyBytes(t *testing.T) {
	for _, n := range []int{0, 1, 2, 6, 7, 255, 256, 3999, 4000} {
		part := many(9, n)[8]
		m := full()
		m.Data = part
		holdMsg(t, m)
		m = full()
		m.List = [][]byte{part, {1}, part, part}
		holdMsg(t, m)
	}
	for _, n := range []int{4001, 4002, 8000, api.MaxBytes + 1} {
		part := many(9, n)[8]
		m := full()
		m.Data = part
		holdRefused(t, "data", m, api.ErrLong)
		holdError(t, "data", form(m), api.ErrLong)
		for place := range 3 {
			m = full()
			m.List[place] = part
			holdRefused(t, "entry", m, api.ErrLong)
			holdError(t, "entry", form(m), api.ErrLong)
		}
	}
	for _, n := range []uint64{4001, 1 << 20, 1<<32 + 1, 1 << 63, math.MaxUint64} {
		for ahead := range 3 {
			w := numbers(full())
			w.Num(2)
			for range ahead {
				putPart(w, []byte("ab"))
			}
			w.Num(n)
			holdError(t, "bytes, end", w, api.ErrLong)
			w.Put(0, 64)
			w.Put(0, 64)
			holdError(t, "bytes, noughts", w, api.ErrLong)
		}
	}
	w := numbers(full())
	w.Num(0)
	w.Num(4000)
	holdError(t, "bytes, end", w, api.ErrShort)
}

// filled is a message whose content has so many bits more than a frame has room for.
func filled(more int) wire.Msg {
	m := wire.Msg{Kind: wire.Prep, List: many(16, 4000)}
	left := func() int { return 8*api.MaxBytes + more - form(m).Len() }
	// An entry of no bytes has one bit.
	if left()%2 == 1 {
		m.List = append(m.List, nil)
	}
	m.Data = bytes.Repeat([]byte{7}, left()/8-4)
	for range left() / 2 {
		m.Id = 2*m.Id + 1
	}
	return m
}

func TestTheFrameIsFull(t *testing.T) {
	for more := -9; more <= 17; more++ {
		// In the other one the last bit is that of data of no bytes.
		other := filled(more - 1)
		other.List, other.Data = append(other.List, other.Data), nil
		for _, m := range []wire.Msg{filled(more), other} {
			if n := form(m).Len(); n != 8*api.MaxBytes+more {
				t.Fatal("the test's own message:", n)
			}
			if more <= 0 {
				holdMsg(t, m)
			} else {
				holdRefused(t, "too long for a frame", m, api.ErrLong)
			}
		}
	}
	holdRefused(t, "the longest", wire.Msg{Kind: wire.New, List: many(2000, 4000), Data: many(1, 4000)[0]}, api.ErrLong)
	holdBytes(t, "too long for a frame", framed(wire.Do, make([]byte, api.MaxBytes+1)), api.ErrLong)
	holdBytes(t, "too long for a frame", framed(wire.Do, form(filled(1)).Bytes()), api.ErrLong)
}

func TestOrderOfErrors(t *testing.T) {
	long := wire.Msg{List: many(2001, 4001), Data: make([]byte, 4001), Err: -1}
	holdRefused(t, "all", long, api.ErrKind)
	long.Kind = wire.Tell
	holdRefused(t, "all but the kind", long, api.ErrArg)
	long.Err = 0
	holdRefused(t, "too many and too long", long, api.ErrMany)
	long.List = long.List[:2000]
	holdRefused(t, "too long", long, api.ErrLong)
	holdRefused(t, "a kind and a number", wire.Msg{Kind: 8, From: -1}, api.ErrKind)
	// Of bytes the first one is what comes first.
	m := full()
	m.Id, m.List, m.Data = -1, many(2001, 1), make([]byte, 4001)
	holdError(t, "number", form(m), api.ErrArg)
	m.Id = 1
	holdError(t, "list", form(m), api.ErrMany)
	m.List = [][]byte{make([]byte, 4001)}
	w := form(m)
	w.Put(1, 64)
	holdError(t, "entry", w, api.ErrLong)
	w = numbers(full())
	w.Num(1)
	w.Put(0, 64)
	w.Put(0, 64)
	w.Num(math.MaxUint64)
	holdError(t, "noughts ahead of a number of bytes", w, api.ErrForm)
}

func TestTheFramesErrors(t *testing.T) {
	b := framed(wire.Ask, form(full()).Bytes())
	for n := range b {
		holdBytes(t, "cut", b[:n], api.ErrShort)
	}
	for at := range b {
		turned := bytes.Clone(b)
		turned[at] ^= 0x41
		holdBytes(t, "turned", turned, api.ErrSum)
		holdBytes(t, "turned, and more", append(turned, 0), api.ErrSum)
	}
	for _, more := range [][]byte{{0}, {255}, b, make([]byte, 100)} {
		holdBytes(t, "trail", append(bytes.Clone(b), more...), api.ErrTrail)
		// Ahead of what is wrong in the content.
		holdBytes(t, "trail, no message", append(framed(wire.Ask, nil), more...), api.ErrTrail)
		holdBytes(t, "trail, number", append(framed(wire.Ask, []byte{0, 0, 0}), more...), api.ErrTrail)
	}
	holdBytes(t, "nothing", nil, api.ErrShort)
	holdBytes(t, "nothing", []byte{}, api.ErrShort)
}

// heads is the bits of a message up to each of its numbers.
func heads() []*bits.Writer {
	var all []*bits.Writer
	for n := range 10 {
		w := &bits.Writer{}
		for range n {
			w.Num(1)
		}
		all = append(all, w)
	}
	for n := range 3 {
		w := numbers(full())
		w.Num(2)
		for range n {
			putPart(w, []byte("xyz"))
		}
		all = append(all, w)
	}
	return all
}

// TestTheReadersErrors stops the reader at each number: by one that is none, and by the end.
func TestTheReadersErrors(t *testing.T) {
	for i := range heads() {
		holdError(t, "end", heads()[i], api.ErrShort)
		w := heads()[i]
		w.Put(0, 57)
		holdError(t, "noughts, end", w, api.ErrShort)
		w = heads()[i]
		w.Put(0, 64)
		w.Put(1, 2)
		holdError(t, "65 noughts", w, api.ErrForm)
		w = heads()[i]
		w.Put(0, 64)
		w.Put(1, 1)
		w.Put(1, 64)
		holdError(t, "too great", w, api.ErrForm)
	}
	all := form(full()).Bytes()
	for n := range all {
		holdBytes(t, "cut", framed(wire.Tell, all[:n]), api.ErrShort)
	}
}

func TestTrailsOfTheContent(t *testing.T) {
	for i := range 40 {
		m := full()
		m.Id = 1<<i - 1
		m.List = many(i%5, i)
		room := (8 - form(m).Len()%8) % 8
		for n := range room {
			w := form(m)
			w.Put(1, n+1)
			holdError(t, "a bit behind", w, api.ErrTrail)
		}
		for _, more := range [][]byte{{0}, {1}, {255}, make([]byte, 100)} {
			holdBytes(t, "bytes behind", framed(m.Kind, append(form(m).Bytes(), more...)), api.ErrTrail)
		}
	}
}

// model is what the chapter's words say of bytes.
func model(b []byte) (wire.Msg, api.Errno) {
	f, n, e := frame.Decode(b)
	switch {
	case e != api.OK:
		return wire.Msg{}, e
	case n != len(b):
		return wire.Msg{}, api.ErrTrail
	case f.Kind == 0 || f.Kind > 7:
		return wire.Msg{}, api.ErrKind
	}
	r := bits.Read(f.Data)
	number := func(most uint64, wrong api.Errno) int {
		x := r.Num()
		if x > most {
			e = firstOf(e, wrong)
		}
		e = firstOf(e, r.Err())
		if e != api.OK {
			return 0
		}
		return int(x)
	}
	part := func() []byte {
		var p []byte
		for range number(4000, api.ErrLong) {
			p = append(p, byte(r.Get(8)))
		}
		return p
	}
	m := wire.Msg{Kind: f.Kind}
	for _, place := range places() {
		*place(&m) = number(1<<40, api.ErrArg)
	}
	for range number(2000, api.ErrMany) {
		m.List = append(m.List, part())
	}
	m.Data = part()
	if e = firstOf(e, r.End()); e != api.OK {
		return wire.Msg{}, e
	}
	return m, api.OK
}

// firstOf is the first of two errors.
func firstOf(a, b api.Errno) api.Errno {
	if a != api.OK {
		return a
	}
	return b
}

// anyMsg is a message that is right, mostly of small numbers.
func anyMsg(source *rand.Rand) wire.Msg {
	m := wire.Msg{Kind: 1 + source.Intn(7)}
	for _, place := range places() {
		*place(&m) = int(source.Int63n(1<<40) >> source.Intn(41))
	}
	part := func() []byte {
		b := make([]byte, source.Intn(6))
		source.Read(b)
		return b
	}
	for range source.Intn(4) {
		m.List = append(m.List, part())
	}
	m.Data = part()
	return m
}

// TestAnyBytes decodes messages' bytes, such whose content has some bits turned, cut or lengthened, and bytes of anything; what is decoded is encoded as the same bytes.
func TestAnyBytes(t *testing.T) {
	source := rand.New(rand.NewSource(31))
	count := map[api.Errno]int{}
	for range 40000 {
		m := anyMsg(source)
		holdMsg(t, m)
		kind, data := source.Intn(9), form(m).Bytes()
		switch source.Intn(8) {
		case 0:
			data = data[:source.Intn(len(data)+1)]
		case 1:
			data = append(data, byte(source.Intn(2)*source.Intn(256)))
		case 2:
			data = make([]byte, source.Intn(40))
			source.Read(data)
		case 3:
			from := source.Intn(len(data))
			clear(data[from:min(from+10, len(data))])
		default:
			for range 1 + source.Intn(2) {
				data[source.Intn(len(data))] ^= 1 << source.Intn(8)
			}
		}
		b := framed(kind, data)
		switch source.Intn(20) {
		case 0:
			b = append(b, 0)
		case 1:
			b[source.Intn(len(b))] ^= 1 << source.Intn(8)
		case 2:
			b = b[:source.Intn(len(b))]
		}
		got, e := wire.Decode(b)
		want, wrong := model(b)
		if e != wrong || !same(got, want) {
			t.Fatalf("Decode(%v): %v, %d, want %v, %d", b, got, e, want, wrong)
		}
		if e == api.OK {
			if back, e := wire.Encode(got); e != api.OK || !bytes.Equal(back, b) {
				t.Fatalf("Encode of Decode(%v): %v, %d", b, back, e)
			}
		}
		count[e]++
	}
	for _, e := range []api.Errno{api.OK, api.ErrArg, api.ErrLong, api.ErrMany, api.ErrShort, api.ErrForm, api.ErrTrail, api.ErrSum, api.ErrKind} {
		if count[e] < 20 {
			t.Error("too few:", count)
		}
	}
}

// roomy is a message with room behind each list, in which something stands.
func roomy(m wire.Msg) wire.Msg {
	list := append(slices.Clone(m.List), []byte{77})[:len(m.List)]
	for i := range list {
		list[i] = append(bytes.Clone(m.List[i]), 77)[:len(m.List[i])]
	}
	m.List, m.Data = list, append(bytes.Clone(m.Data), 77)[:len(m.Data)]
	return m
}

func roomStands(m wire.Msg) bool {
	stands := func(b []byte) bool { return b[:len(b)+1][len(b)] == 77 }
	for _, part := range m.List {
		if !stands(part) {
			return false
		}
	}
	last := m.List[:len(m.List)+1][len(m.List)]
	return len(last) == 1 && last[0] == 77 && stands(m.Data)
}

func TestEncodeKeepsNothing(t *testing.T) {
	source := rand.New(rand.NewSource(32))
	for range 300 {
		m := anyMsg(source)
		given := roomy(m)
		b, _ := wire.Encode(given)
		if !same(given, m) || !roomStands(given) {
			t.Fatal("Encode changes what it is given:", m)
		}
		had := slices.Clone(b)
		for _, part := range given.List {
			clear(part)
		}
		clear(given.List)
		clear(given.Data)
		if !bytes.Equal(b, had) {
			t.Fatal("Encode's answer hangs on what it was given:", m)
		}
		clear(b[:cap(b)])
		if again, _ := wire.Encode(m); !bytes.Equal(again, had) {
			t.Fatal("two answers share memory:", m)
		}
	}
	// One that is refused is left as it is, too.
	for _, spoil := range []func(*wire.Msg){
		func(m *wire.Msg) { m.Kind = 0 },
		func(m *wire.Msg) { m.Err = -1 },
		func(m *wire.Msg) { m.List = many(2001, 1) },
		func(m *wire.Msg) { m.Data = make([]byte, 4001) },
		func(m *wire.Msg) { m.List = many(20, 4000) },
	} {
		m := full()
		spoil(&m)
		given := roomy(m)
		if _, e := wire.Encode(given); e == api.OK || !same(given, m) || !roomStands(given) {
			t.Error("a refused message is changed:", e)
		}
	}
}

// fill overwrites a part, and its room.
func fill(b []byte) {
	for i := range b[:cap(b)] {
		b[:cap(b)][i] = 0xee
	}
}

func TestDecodeAnswersNewMemory(t *testing.T) {
	source := rand.New(rand.NewSource(33))
	for range 300 {
		m := anyMsg(source)
		had, _ := wire.Encode(m)
		given := append(bytes.Clone(had), 77)[:len(had)]
		back, _ := wire.Decode(given)
		other, _ := wire.Decode(given)
		if !bytes.Equal(given, had) || given[:len(had)+1][len(had)] != 77 {
			t.Fatal("Decode changes what it is given:", given)
		}
		clear(given)
		// Each part is overwritten, its room too: none of the others must see it.
		for i, part := range back.List {
			if !bytes.Equal(part, m.List[i]) {
				t.Fatal("Decode's answer hangs on what it was given, or its parts share memory:", m)
			}
			fill(part)
		}
		clear(back.List[:cap(back.List)])
		if !bytes.Equal(back.Data, m.Data) {
			t.Fatal("the data shares memory with the list:", m)
		}
		fill(back.Data)
		if !same(other, m) {
			t.Fatal("two answers share memory:", m)
		}
		// And now the other way round.
		fill(other.Data)
		for i, part := range slices.Backward(other.List) {
			if !bytes.Equal(part, m.List[i]) {
				t.Fatal("two parts of one answer share memory:", m)
			}
			fill(part)
		}
	}
}

// TestOneQuestionOneAnswer asks with other questions in between.
func TestOneQuestionOneAnswer(t *testing.T) {
	source := rand.New(rand.NewSource(34))
	for range 200 {
		m := anyMsg(source)
		b, _ := wire.Encode(m)
		wire.Encode(full())
		wire.Decode(b[:len(b)-1])
		back, e := wire.Decode(b)
		again, _ := wire.Encode(m)
		if e != api.OK || !same(back, m) || !bytes.Equal(again, b) {
			t.Error("two answers to one question:", m)
		}
	}
}
