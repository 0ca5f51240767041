package book

import (
	"bytes"
	"math"
	"math/big"
	"math/rand"
	"reflect"
	"slices"
	"strings"
	"testing"

	"crucible/api"
)

func r(key, val int) api.Op { return api.Op{Kind: api.Read, Key: key, Val: val} }
func w(key, val int) api.Op { return api.Op{Kind: api.Write, Key: key, Val: val} }

func ev(kind, client int, ops ...api.Op) api.Event {
	return api.Event{Kind: kind, Client: client, Ops: ops}
}

func sameEvent(a, b api.Event) bool {
	return a.Kind == b.Kind && a.Client == b.Client && slices.Equal(a.Ops, b.Ops)
}

// binary is a number's n bits as a text.
func binary(x, n int) string {
	text := strings.Repeat("0", n) + big.NewInt(int64(x)).Text(2)
	return text[len(text)-n:]
}

// num is the bits of layer 1's number as a text.
func num(x *big.Int) string {
	text := new(big.Int).Add(x, big.NewInt(1)).Text(2)
	return strings.Repeat("0", len(text)-1) + text
}

func count(x int) string { return num(big.NewInt(int64(x))) }

// form is the chapter's form of events as a text, with no noughts at the end.
func form(es []api.Event) string {
	text := count(len(es))
	for _, ev := range es {
		text += binary(ev.Kind-1, 2) + binary(ev.Client-1, 4) + binary(len(ev.Ops), 4)
		for _, op := range ev.Ops {
			text += binary(op.Kind-1, 1) + binary(op.Key, 4) + count(op.Val)
		}
	}
	return text
}

// packed is the bytes of a text of bits, with noughts up to a byte's end.
func packed(text string) []byte {
	text += strings.Repeat("0", (8-len(text)%8)%8)
	b := make([]byte, 0, len(text)/8)
	for ; text != ""; text = text[8:] {
		x, _ := new(big.Int).SetString(text[:8], 2)
		b = append(b, byte(x.Int64()))
	}
	return b
}

// drawn is any events that have bytes; they seldom make a history.
func drawn(source *rand.Rand) []api.Event {
	es := make([]api.Event, source.Intn(12))
	for i := range es {
		es[i] = ev(source.Intn(4)+1, source.Intn(16)+1)
		for range source.Intn(13) {
			es[i].Ops = append(es[i].Ops, api.Op{Kind: source.Intn(2) + 1, Key: source.Intn(16), Val: int(source.Int63n(1<<40) >> source.Intn(41))})
		}
	}
	return es
}

func holdEvents(t *testing.T, es []api.Event) {
	t.Helper()
	want := packed(form(es))
	b, e := Encode(es)
	if e != api.OK || !bytes.Equal(b, want) {
		t.Fatalf("Encode(%v): %v, %d, want %v", es, b, e, want)
	}
	back, e := Decode(b)
	if e != api.OK || !slices.EqualFunc(back, es, sameEvent) {
		t.Fatalf("Decode of %v: %v, %d", es, back, e)
	}
}

func TestTheDocumentsExamples(t *testing.T) {
	for _, c := range []struct {
		es   []api.Event
		want []byte
	}{
		{nil, []byte{128}},
		{[]api.Event{}, []byte{128}},
		{[]api.Event{ev(api.Info, 1)}, []byte{88, 0}},
		{[]api.Event{{Kind: api.Info, Client: 1, Ops: []api.Op{}}}, []byte{88, 0}},
	} {
		if b, e := Encode(c.es); e != api.OK || !bytes.Equal(b, c.want) {
			t.Errorf("Encode(%v): %v, %d", c.es, b, e)
		}
		if es, e := Decode(c.want); e != api.OK || !slices.EqualFunc(es, c.es, sameEvent) {
			t.Errorf("Decode(%v): %v, %d", c.want, es, e)
		}
	}
}

func TestOneEventByHand(t *testing.T) {
	es := []api.Event{ev(api.Ok, 16, w(9, 4), r(15, 0))}
	// 010; 01 1111 0010; 1 1001 00101; 0 1111 1
	if got, want := form(es), "010"+"0111110010"+"1100100101"+"011111"; got != want {
		t.Fatal("the test's own form:", got)
	}
	if b, e := Encode(es); e != api.OK || !bytes.Equal(b, []byte{0b01001111, 0b10010110, 0b01001010, 0b11111000}) {
		t.Error(b, e)
	}
}

func TestEdgesAreEncodedAndDecoded(t *testing.T) {
	for kind := api.Invoke; kind <= api.Info; kind++ {
		for client := 1; client <= api.MaxClients; client++ {
			holdEvents(t, []api.Event{ev(kind, client)})
		}
	}
	for _, op := range []int{api.Read, api.Write} {
		for key := range api.MaxKeys {
			for _, val := range []int{0, 1, 2, 1<<39 - 1, 1 << 39, api.MaxVal - 2, api.MaxVal - 1} {
				holdEvents(t, []api.Event{ev(api.Fail, 2, api.Op{Kind: op, Key: key, Val: val})})
			}
		}
	}
	full := slices.Repeat([]api.Op{w(15, api.MaxVal-1)}, api.MaxOps)
	for n := range api.MaxOps + 1 {
		holdEvents(t, []api.Event{ev(api.Invoke, 1, full[:n]...)})
	}
	for _, n := range []int{1, 2, 399, 400} {
		holdEvents(t, slices.Repeat([]api.Event{ev(api.Info, 16, full...)}, n))
		holdEvents(t, slices.Repeat([]api.Event{ev(api.Invoke, 1)}, n))
	}
}

func TestWhatMakesNoHistoryIsEncoded(t *testing.T) {
	holdEvents(t, []api.Event{ev(api.Ok, 1), ev(api.Invoke, 1), ev(api.Invoke, 1, r(0, 9), w(0, 0), w(0, 3), w(0, 3)), ev(api.Info, 2, w(1, 3))})
}

func TestEncodeRefuses(t *testing.T) {
	many := slices.Repeat([]api.Op{r(0, 0)}, api.MaxOps+1)
	bad := []api.Event{{}, ev(api.Invoke, 1, many...), ev(api.Info, 1, slices.Repeat(many, 100)...)}
	for _, kind := range []int{0, 5, 6, -1, 1 << 32, math.MinInt, math.MaxInt} {
		bad = append(bad, ev(kind, 1))
	}
	for _, client := range []int{0, 17, -1, 33, math.MinInt, math.MaxInt} {
		bad = append(bad, ev(api.Invoke, client, r(0, 0)))
	}
	for _, op := range []api.Op{
		{Kind: 0}, {Kind: 3}, {Kind: -1}, {Kind: math.MinInt}, {Kind: math.MaxInt},
		r(-1, 0), w(16, 1), r(math.MinInt, 0), w(math.MaxInt, 1),
		r(0, -1), w(0, -1), r(0, api.MaxVal), w(0, api.MaxVal), r(0, math.MinInt), w(0, math.MaxInt),
	} {
		bad = append(bad, ev(api.Ok, 1, op), ev(api.Fail, 3, r(0, 0), op, w(1, 1)), ev(api.Info, 3, r(0, 0), w(1, 1), op))
	}
	good := ev(api.Invoke, 1, r(0, 0))
	for _, b := range bad {
		for _, es := range [][]api.Event{{b}, {good, b}, {b, good}, {good, b, good}} {
			if got, e := Encode(es); e != api.ErrEvent || len(got) != 0 {
				t.Errorf("Encode(%v): %v, %d", es, got, e)
			}
		}
	}
}

func TestEncodeOfTooMany(t *testing.T) {
	good := slices.Repeat([]api.Event{ev(api.Invoke, 1)}, api.MaxEvents+1)
	// That there are too many is told ahead of what is wrong with one of them.
	for _, es := range [][]api.Event{good, make([]api.Event, api.MaxEvents+1), make([]api.Event, 3000)} {
		if b, e := Encode(es); e != api.ErrMany || len(b) != 0 {
			t.Errorf("Encode of %d events: %d bytes, %d", len(es), len(b), e)
		}
	}
	if b, e := Encode(append(good[:api.MaxEvents-1:api.MaxEvents-1], api.Event{})); e != api.ErrEvent || len(b) != 0 {
		t.Errorf("Encode of 400 events, the last of them none: %d bytes, %d", len(b), e)
	}
}

func TestDecodeRefuses(t *testing.T) {
	noughts := strings.Repeat("0", 65)
	greatest := num(new(big.Int).SetUint64(math.MaxUint64))
	event := func(ops int) string { return "10" + "0011" + binary(ops, 4) }
	valAt := count(1) + event(1) + "1" + "0101"
	for _, c := range []struct {
		name, text string
		want       api.Errno
	}{
		{"nothing", "", api.ErrShort},
		{"no number ends", "00000000", api.ErrShort},
		{"65 noughts", noughts, api.ErrForm},
		{"64 noughts", noughts[:64], api.ErrShort},
		{"401 events and nothing else", count(401), api.ErrMany},
		{"401 events and all of them", count(401) + strings.Repeat(event(0), 401), api.ErrMany},
		{"the greatest number of events", greatest, api.ErrMany},
		{"2^63 events", num(new(big.Int).Lsh(big.NewInt(1), 63)), api.ErrMany},
		{"2^32 events", count(1 << 32), api.ErrMany},
		{"an event too few", count(2) + event(0) + "00", api.ErrShort},
		{"400 events and none of them", count(400), api.ErrShort},
		{"13 ops and nothing else", count(1) + event(13), api.ErrForm},
		{"15 ops, in the second event", count(2) + event(0) + event(15) + strings.Repeat("0", 99), api.ErrForm},
		{"13 ops and all of them", count(1) + event(13) + strings.Repeat("000001", 13), api.ErrForm},
		{"12 ops and none of them", count(1) + event(12), api.ErrShort},
		{"an op too few", count(1) + event(3) + strings.Repeat("000001", 2) + "000", api.ErrShort},
		{"MaxVal and an op too few", count(1) + event(2) + "0" + "0000" + count(api.MaxVal), api.ErrForm},
		{"MaxVal", valAt + count(api.MaxVal), api.ErrForm},
		{"MaxVal and something left", valAt + count(api.MaxVal) + "11111111", api.ErrForm},
		{"2^63 as a Val", valAt + num(new(big.Int).Lsh(big.NewInt(1), 63)), api.ErrForm},
		{"the greatest Val", valAt + greatest, api.ErrForm},
		{"more than the greatest Val", valAt + greatest[:len(greatest)-1] + "1", api.ErrForm},
		{"a Val that is none", valAt + noughts, api.ErrForm},
		{"a Val too short", valAt + "0000000000000000", api.ErrShort},
		{"a byte left of no events", count(0) + "0000000" + "00000000", api.ErrTrail},
		{"a bit left of no events", count(0) + "0000001", api.ErrTrail},
		{"the next bit of no events", count(0) + "1", api.ErrTrail},
		{"a bit left", valAt + count(4) + "001", api.ErrTrail},
		{"a byte left", valAt + count(4) + "00000000" + "00000000", api.ErrTrail},
	} {
		if es, e := Decode(packed(c.text)); e != c.want || len(es) != 0 {
			t.Errorf("%s: %v, %d, want %d", c.name, es, e, c.want)
		}
	}
}

func TestDecodeOfEachBeginning(t *testing.T) {
	source := rand.New(rand.NewSource(7))
	for range 60 {
		b, _ := Encode(append(drawn(source), ev(api.Invoke, 1, w(3, 1<<40-1))))
		for n := range len(b) {
			if es, e := Decode(b[:n]); e != api.ErrShort || len(es) != 0 {
				t.Fatalf("Decode of %d of %v: %v, %d", n, b, es, e)
			}
		}
		for _, more := range [][]byte{{0}, {128}, {0, 0}, {255, 255}} {
			if es, e := Decode(append(bytes.Clone(b), more...)); e != api.ErrTrail || len(es) != 0 {
				t.Fatalf("Decode of %v and %v: %v, %d", b, more, es, e)
			}
		}
	}
}

func TestEncodedIsDecoded(t *testing.T) {
	source := rand.New(rand.NewSource(8))
	for range 2000 {
		holdEvents(t, drawn(source))
	}
}

// text is bits that are taken from the front, as the chapter says; the first error stays.
type text struct {
	bits string
	err  api.Errno
}

func (x *text) stop(e api.Errno) {
	if x.err == api.OK {
		x.err = e
	}
}

func (x *text) get(n int) int {
	if x.err != api.OK || len(x.bits) < n {
		x.stop(api.ErrShort)
		return 0
	}
	v, _ := new(big.Int).SetString(x.bits[:n], 2)
	x.bits = x.bits[n:]
	return int(v.Int64())
}

func (x *text) num() *big.Int {
	n := strings.Index(x.bits, "1")
	switch {
	case strings.HasPrefix(x.bits, strings.Repeat("0", 65)):
		x.stop(api.ErrForm)
	case n < 0 || len(x.bits) < 2*n+1:
		x.stop(api.ErrShort)
	case n == 64 && strings.Contains(x.bits[65:129], "1"):
		x.stop(api.ErrForm)
	}
	if x.err != api.OK {
		return new(big.Int)
	}
	v, _ := new(big.Int).SetString(x.bits[:2*n+1], 2)
	x.bits = x.bits[2*n+1:]
	return v.Sub(v, big.NewInt(1))
}

// modelDecode is Decode by the chapter's words.
func modelDecode(b []byte) ([]api.Event, api.Errno) {
	x := &text{}
	for _, c := range b {
		x.bits += binary(int(c), 8)
	}
	n := x.num()
	if n.Cmp(big.NewInt(400)) > 0 {
		x.stop(api.ErrMany)
	}
	var es []api.Event
	for i := int64(0); x.err == api.OK && i < n.Int64(); i++ {
		e := ev(x.get(2)+1, x.get(4)+1)
		ops := x.get(4)
		if ops > 12 {
			x.stop(api.ErrForm)
		}
		for j := 0; x.err == api.OK && j < ops; j++ {
			op := api.Op{Kind: x.get(1) + 1, Key: x.get(4)}
			val := x.num()
			if val.Cmp(big.NewInt(1<<40)) >= 0 {
				x.stop(api.ErrForm)
			}
			op.Val = int(val.Int64())
			e.Ops = append(e.Ops, op)
		}
		es = append(es, e)
	}
	if len(x.bits) >= 8 || strings.Contains(x.bits, "1") {
		x.stop(api.ErrTrail)
	}
	if x.err != api.OK {
		return nil, x.err
	}
	return es, api.OK
}

// anyBytes is bytes of which some are a history's: a few events, spoilt here and there, or noise with many noughts.
func anyBytes(source *rand.Rand) []byte {
	if source.Intn(3) == 0 {
		b := make([]byte, source.Intn(9))
		for i := range b {
			b[i] = byte(source.Intn(256)) & byte(-source.Intn(2))
		}
		return append([]byte{byte(64 + source.Intn(192))}, b...)
	}
	es := drawn(source)
	b, _ := Encode(es[:min(len(es), source.Intn(4))])
	for range source.Intn(3) {
		b[source.Intn(len(b))] ^= 1 << source.Intn(8)
	}
	return b
}

// TestDecodeIsTheChapters holds Decode against its model, and what it tells, encoded again, against the bytes.
func TestDecodeIsTheChapters(t *testing.T) {
	source := rand.New(rand.NewSource(9))
	seen := map[api.Errno]int{}
	for range 20000 {
		b := anyBytes(source)
		want, wrong := modelDecode(b)
		seen[wrong]++
		es, e := Decode(b)
		if e != wrong || !slices.EqualFunc(es, want, sameEvent) {
			t.Fatalf("Decode(%v): %v, %d, want %v, %d", b, es, e, want, wrong)
		}
		if e != api.OK {
			continue
		}
		if again, e := Encode(es); e != api.OK || !bytes.Equal(again, b) {
			t.Fatalf("%v is decoded, and encoded again it is %v, %d", b, again, e)
		}
	}
	for _, e := range []api.Errno{api.OK, api.ErrShort, api.ErrForm, api.ErrTrail} {
		if seen[e] < 100 {
			t.Errorf("error %d was met %d times", e, seen[e])
		}
	}
}

// TestAllOfTwoBytesHaveOneForm decodes each of them: no two are the bytes of one history.
func TestAllOfTwoBytesHaveOneForm(t *testing.T) {
	for x := range 1 << 16 {
		for _, b := range [][]byte{{byte(x >> 8), byte(x)}, {byte(x)}} {
			es, e := Decode(b)
			if e != api.OK {
				continue
			}
			if again, e := Encode(es); e != api.OK || !bytes.Equal(again, b) {
				t.Fatalf("%v is decoded, and encoded again it is %v, %d", b, again, e)
			}
		}
	}
}

func TestNothingIsSharedOrChanged(t *testing.T) {
	rooms := func() [][]api.Op { return [][]api.Op{{r(1, 2), w(3, 4), r(9, 9)}, {w(5, 6), r(9, 9)}} }
	have := rooms()
	es := []api.Event{ev(api.Invoke, 1, have[0][:2]...), ev(api.Ok, 2, have[1][:1]...), ev(api.Info, 3)}
	b, e := Encode(es[:2])
	if e != api.OK || !reflect.DeepEqual(have, rooms()) || es[2].Kind != api.Info {
		t.Fatal("what was handed in is changed", e, es)
	}
	whole := append(bytes.Clone(b), 1, 2, 3)
	back, e := Decode(whole[:len(b)])
	if e != api.OK || !bytes.Equal(whole, append(bytes.Clone(b), 1, 2, 3)) {
		t.Fatal("bytes that were handed in are changed", e, whole)
	}
	clear(whole)
	clear(back[0].Ops[:cap(back[0].Ops)])
	if !sameEvent(back[1], es[1]) {
		t.Error("two lists of an answer share memory, or one keeps an argument's", back)
	}
	other, _ := Encode(es[:2])
	clear(other[:cap(other)])
	if again, _ := Encode(es[:2]); !bytes.Equal(again, b) || !reflect.DeepEqual(have, rooms()) {
		t.Error("an answer shares memory", again, b)
	}
}
