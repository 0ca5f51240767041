package cert

import (
	"bytes"
	"maps"
	"math"
	"math/big"
	"math/rand"
	"reflect"
	"slices"
	"strings"
	"testing"

	"crucible/api"
	"crucible/check"
	"crucible/flaws"
)

// number is the bits of layer 1's Num as a text.
func number(x *big.Int) string {
	text := new(big.Int).Add(x, big.NewInt(1)).Text(2)
	return strings.Repeat("0", len(text)-1) + text
}

func num(x int) string { return number(big.NewInt(int64(x))) }

// nums is the bits of layer 1's Int of each number as a text.
func nums(xs ...int) string {
	text := ""
	for _, x := range xs {
		twice := new(big.Int).Lsh(big.NewInt(int64(x)), 1)
		if x < 0 {
			twice.Neg(twice).Sub(twice, big.NewInt(1))
		}
		text += number(twice)
	}
	return text
}

// form is the chapter's form of a verdict as a text, with no noughts at the end.
func form(v check.Verdict) string {
	p := v.Proof
	text := nums(v.Kind, v.Steps, p.Flaw.Txn, p.Flaw.Read, p.Flaw.Kind) + num(len(p.Tree))
	for _, n := range p.Tree {
		text += num(len(n.Cycle)) + nums(n.Cycle...)
	}
	text += num(len(p.Done))
	for _, done := range p.Done {
		text += map[bool]string{true: "1", false: "0"}[done]
	}
	text += num(len(p.Orders))
	for _, key := range slices.Sorted(maps.Keys(p.Orders)) {
		text += nums(key) + num(len(p.Orders[key])) + nums(p.Orders[key]...)
	}
	return text
}

// packed is the bytes of a text of bits, with noughts up to a byte's end.
func packed(text string) []byte {
	text += strings.Repeat("0", (8-len(text)%8)%8)
	b := make([]byte, 0, len(text)/8)
	for ; text != ""; text = text[8:] {
		x, _ := new(big.Int).SetString(text[:8], 2)
		b = append(b, byte(x.Int64()))
	}
	return b
}

// sameVerdict: an empty list, or map, is as good as none.
func sameVerdict(a, b check.Verdict) bool {
	sameNode := func(a, b check.Node) bool { return slices.Equal(a.Cycle, b.Cycle) }
	p, q := a.Proof, b.Proof
	return a.Kind == b.Kind && a.Steps == b.Steps && p.Flaw == q.Flaw && slices.EqualFunc(p.Tree, q.Tree, sameNode) &&
		slices.Equal(p.Done, q.Done) && maps.EqualFunc(p.Orders, q.Orders, slices.Equal[[]int])
}

func holdBytes(t *testing.T, v check.Verdict) {
	t.Helper()
	want := packed(form(v))
	b := Encode(v)
	if !bytes.Equal(b, want) {
		t.Fatalf("Encode(%v): %v, want %v", v, b, want)
	}
	if back, e := Decode(b); e != api.OK || !sameVerdict(back, v) {
		t.Fatalf("Decode of %v: %v, %d", v, back, e)
	}
}

// holdError decodes a text of bits.
func holdError(t *testing.T, text string, want api.Errno) {
	t.Helper()
	if v, e := Decode(packed(text)); e != want || !reflect.DeepEqual(v, check.Verdict{}) {
		t.Errorf("Decode(%s): %v, %d, want %d", text, v, e, want)
	}
}

func TestOneVerdictByHand(t *testing.T) {
	v := failed([]int{0, 1}, nil)
	v.Steps, v.Proof.Flaw = -1, flaws.Flaw{Txn: 1}
	v.Proof.Done, v.Proof.Orders = []bool{true, false}, map[int][]int{0: {1}, -1: nil}
	// Kind 2: 4, Steps -1: 1, Txn 1: 2, 0, 0; two steps: of 0 and 1, of none; two bits; two keys: -1: 1, none; 0, one: 1.
	text := "00101" + "010" + "011" + "1" + "1" + "011" + "011" + "1" + "011" + "1" + "011" + "10" + "011" + "010" + "1" + "1" + "010" + "011"
	if form(v) != text {
		t.Fatal("the test's own form:", form(v))
	}
	if b := Encode(v); !bytes.Equal(b, []byte{0b00101010, 0b01111011, 0b01110111, 0b01110011, 0b01011010, 0b01100000}) {
		t.Errorf("%08b", b)
	}
	holdBytes(t, v)
	if b := Encode(check.Verdict{}); !bytes.Equal(b, []byte{255}) {
		t.Error(b)
	}
	holdBytes(t, check.Verdict{})
}

func TestEdgesAreEncodedAndDecoded(t *testing.T) {
	for _, x := range []int{0, 1, -1, 2, -2, 1 << 40, math.MaxInt, math.MaxInt - 1, math.MinInt, math.MinInt + 1} {
		holdBytes(t, check.Verdict{Kind: x})
		holdBytes(t, check.Verdict{Steps: x})
		holdBytes(t, flawed(x, 0, 0))
		holdBytes(t, flawed(0, x, 0))
		holdBytes(t, flawed(0, 0, x))
		holdBytes(t, failed([]int{x}, []int{7, x}, nil, []int{x, x, x}))
		holdBytes(t, pass(nil, map[int][]int{x: {x, 3, x}}))
		holdBytes(t, pass(nil, map[int][]int{x: nil, x / 2: {}, 5: {x}}))
	}
	for n := range 20 {
		holdBytes(t, pass(all(n), nil))
		holdBytes(t, pass(make([]bool, n), map[int][]int{0: nil}))
		holdBytes(t, failed(make([][]int, n)...))
		holdBytes(t, failed(make([]int, n)))
	}
	holdBytes(t, pass([]bool{}, map[int][]int{}))
	holdBytes(t, check.Verdict{Proof: check.Proof{Tree: []check.Node{}, Orders: map[int][]int{3: {}}}})
	holdBytes(t, pass(nil, map[int][]int{math.MinInt: {1}, -5: {2}, -1: nil, 0: {3}, 1: {4}, 15: {5}, 300: nil, math.MaxInt: {6, 7}}))
}

// TestWhatIsToldIsEncoded goes through what layer 11 tells; what comes back holds as well.
func TestWhatIsToldIsEncoded(t *testing.T) {
	source := rand.New(rand.NewSource(16))
	for range 500 {
		es := drawn(source, 5)
		for _, level := range []int{api.Serial, api.Snapshot, 0} {
			for _, budget := range []int{1, 100000} {
				v := check.Check(es, level, budget)
				holdBytes(t, v)
				back, _ := Decode(Encode(v))
				if Holds(es, level, back) != (v.Kind != check.Unknown) {
					t.Fatal("what comes back doesn't hold:", es, level, v)
				}
			}
		}
	}
}

func TestKeysMustRise(t *testing.T) {
	head := nums(0, 0, 0, 0, 0) + num(0) + num(0)
	for _, x := range []struct {
		ahead, key int
	}{{0, 0}, {0, -1}, {1, 0}, {1, -1}, {-1, -1}, {-1, -2}, {0, math.MinInt}, {math.MaxInt, math.MaxInt}, {math.MaxInt, math.MinInt}, {math.MinInt, math.MinInt}, {7, 6}} {
		first := head + num(9) + nums(x.ahead) + num(1) + nums(5)
		// Right behind the key: whether anything stands behind it is nothing to it.
		holdError(t, first+nums(x.key), api.ErrForm)
		holdError(t, first+nums(x.key)+num(0), api.ErrForm)
		holdError(t, first+nums(x.key)+strings.Repeat("0", 70), api.ErrForm)
		holdError(t, first+nums(x.key)+strings.Repeat("1", 70), api.ErrForm)
		// Ahead of it there is one that rises.
		holdError(t, head+num(3)+nums(math.MinInt)+num(0)+nums(math.MinInt+1)+num(0)+nums(math.MinInt), api.ErrForm)
		if _, e := Decode(packed(head + num(2) + nums(x.key) + num(0) + nums(x.ahead) + num(0))); (e == api.OK) != (x.key < x.ahead) {
			t.Error("the other way round:", x, e)
		}
	}
	// The first key has none ahead, however low it is.
	holdBytes(t, pass(nil, map[int][]int{math.MinInt: nil}))
	holdBytes(t, pass(nil, map[int][]int{0: nil}))
}

// TestTheReadersErrors stops the reader at each of the parts of a verdict: by a number that is none, and by the end.
func TestTheReadersErrors(t *testing.T) {
	for _, b := range [][]byte{nil, {}, {0}, {0, 0}} {
		if v, e := Decode(b); e != api.ErrShort || !reflect.DeepEqual(v, check.Verdict{}) {
			t.Errorf("Decode(%v): %v, %d", b, v, e)
		}
	}
	head := nums(3, 3, 3, 3, 3)
	greatest := strings.Repeat("0", 64) + "1" + strings.Repeat("0", 64)
	for _, ahead := range []string{
		"", nums(3), nums(3, 3), nums(3, 3, 3), nums(3, 3, 3, 3),
		// How many steps; nodes; a node; how many bits; keys; a key; how many of it; one of it.
		head, head + num(2), head + num(1) + num(1), head + num(0),
		head + num(0) + num(1) + "1", head + num(0) + num(0) + num(1), head + num(0) + num(0) + num(1) + nums(5),
		head + num(0) + num(0) + num(1) + nums(5) + num(1),
	} {
		holdError(t, ahead, api.ErrShort)
		// With the noughts up to a byte's end there are 64 at most.
		holdError(t, ahead+strings.Repeat("0", 57), api.ErrShort)
		holdError(t, ahead+strings.Repeat("0", 65), api.ErrForm)
		holdError(t, ahead+strings.Repeat("0", 65)+"1", api.ErrForm)
		holdError(t, ahead+greatest[:128]+"1", api.ErrForm)
	}
	// There are fewer than a number says, however great it is.
	rest := strings.Repeat("1", 40)
	for _, n := range []string{num(100), num(1 << 40), num(math.MaxInt), greatest} {
		holdError(t, head+n+rest, api.ErrShort)
		holdError(t, head+num(1)+n+rest, api.ErrShort)
		holdError(t, head+num(0)+n+rest, api.ErrShort)
		holdError(t, head+num(0)+num(0)+num(1)+nums(0)+n+rest, api.ErrShort)
		holdError(t, head+num(0)+num(0)+n+nums(-9)+num(0)+nums(3)+num(0), api.ErrShort)
	}
}

func TestTrails(t *testing.T) {
	for _, v := range []check.Verdict{{}, {Kind: 1}, {Kind: -1, Steps: 1}, failed([]int{1, 2}, nil), pass(all(3), map[int][]int{4: {1}}), flawed(1, 2, 3)} {
		text := form(v)
		room := (8 - len(text)%8) % 8
		for i := range room {
			holdError(t, text+strings.Repeat("0", i)+"1", api.ErrTrail)
		}
		holdError(t, text+strings.Repeat("0", room+8), api.ErrTrail)
		holdError(t, text+strings.Repeat("0", room+1), api.ErrTrail)
		holdError(t, text+strings.Repeat("0", room)+"1", api.ErrTrail)
		holdError(t, text+strings.Repeat("0", 800), api.ErrTrail)
	}
}

// model reads the text of some bytes by the chapter's words.
type model struct {
	text string
	err  api.Errno
}

func (m *model) bits(n int) string {
	if m.err == api.OK && len(m.text) < n {
		m.err = api.ErrShort
	}
	if m.err != api.OK {
		return strings.Repeat("0", n)
	}
	taken := m.text[:n]
	m.text = m.text[n:]
	return taken
}

func (m *model) num() *big.Int {
	if m.err != api.OK {
		return new(big.Int)
	}
	n := len(m.text) - len(strings.TrimLeft(m.text, "0"))
	if n > 64 {
		m.err = api.ErrForm
		return new(big.Int)
	}
	x, _ := new(big.Int).SetString("0"+m.bits(2*n+1), 2)
	x.Sub(x, big.NewInt(1))
	if m.err == api.OK && x.BitLen() > 64 {
		m.err = api.ErrForm
	}
	if m.err != api.OK {
		return new(big.Int)
	}
	return x
}

func (m *model) int() int {
	x := m.num()
	odd := x.Bit(0) == 1
	half := int(new(big.Int).Rsh(x, 1).Int64())
	if odd {
		return -half - 1
	}
	return half
}

// times does something as often as a number says, while nothing is wrong.
func (m *model) times(do func()) {
	n, one := m.num(), big.NewInt(1)
	for ; m.err == api.OK && n.Sign() > 0; n.Sub(n, one) {
		do()
	}
}

func (m *model) ints() []int {
	var xs []int
	m.times(func() { xs = append(xs, m.int()) })
	return xs
}

func modelDecode(b []byte) (check.Verdict, api.Errno) {
	m := &model{}
	for _, c := range b {
		text := "0000000" + big.NewInt(int64(c)).Text(2)
		m.text += text[len(text)-8:]
	}
	v := check.Verdict{Kind: m.int(), Steps: m.int()}
	p := &v.Proof
	p.Flaw.Txn, p.Flaw.Read, p.Flaw.Kind = m.int(), m.int(), m.int()
	m.times(func() { p.Tree = append(p.Tree, check.Node{Cycle: m.ints()}) })
	m.times(func() { p.Done = append(p.Done, m.bits(1) == "1") })
	p.Orders = map[int][]int{}
	var keys []int
	m.times(func() {
		key := m.int()
		if m.err == api.OK && len(keys) > 0 && key <= slices.Max(keys) {
			m.err = api.ErrForm
		}
		keys = append(keys, key)
		p.Orders[key] = m.ints()
	})
	if m.err == api.OK && (len(m.text) >= 8 || strings.Contains(m.text, "1")) {
		m.err = api.ErrTrail
	}
	if m.err != api.OK {
		return check.Verdict{}, m.err
	}
	return v, api.OK
}

// anyVerdict is a verdict of anything, mostly of small numbers.
func anyVerdict(source *rand.Rand) check.Verdict {
	x := func() int {
		n := int(source.Uint64() >> source.Intn(64))
		if source.Intn(2) == 0 {
			return source.Intn(9) - 2
		}
		return n
	}
	xs := func() []int {
		var l []int
		for range source.Intn(4) {
			l = append(l, x())
		}
		return l
	}
	v := flawed(x(), x(), x())
	v.Kind, v.Steps = x(), x()
	for range source.Intn(5) {
		v.Proof.Tree = append(v.Proof.Tree, check.Node{Cycle: xs()})
	}
	for range source.Intn(12) {
		v.Proof.Done = append(v.Proof.Done, source.Intn(2) == 0)
	}
	v.Proof.Orders = map[int][]int{}
	for range source.Intn(5) {
		v.Proof.Orders[x()] = xs()
	}
	return v
}

// TestAnyBytes decodes verdicts' bytes, such with some bits turned, cut or lengthened, and bytes of anything, as the chapter's words say; what is decoded is encoded as the same bytes.
func TestAnyBytes(t *testing.T) {
	source := rand.New(rand.NewSource(17))
	count := map[api.Errno]int{}
	for range 20000 {
		v := anyVerdict(source)
		holdBytes(t, v)
		b := Encode(v)
		switch source.Intn(5) {
		case 0:
			b = b[:source.Intn(len(b)+1)]
		case 1:
			b = append(b, byte(source.Intn(2)*source.Intn(256)))
		case 2:
			b = make([]byte, source.Intn(20))
			source.Read(b)
		default:
			for range 1 + source.Intn(2) {
				b[source.Intn(len(b))] ^= 1 << source.Intn(8)
			}
		}
		got, e := Decode(b)
		want, wrong := modelDecode(b)
		if e != wrong || !sameVerdict(got, want) || e != api.OK && !reflect.DeepEqual(got, check.Verdict{}) {
			t.Fatalf("Decode(%v): %v, %d, want %v, %d", b, got, e, want, wrong)
		}
		if e == api.OK && !bytes.Equal(Encode(got), b) {
			t.Fatalf("Encode of Decode(%v): %v", b, Encode(got))
		}
		count[e]++
	}
	for _, e := range []api.Errno{api.OK, api.ErrShort, api.ErrForm, api.ErrTrail} {
		if count[e] < 200 {
			t.Error("too few:", count)
		}
	}
}

// lists is all lists of numbers of a verdict.
func lists(v check.Verdict) [][]int {
	var ls [][]int
	for _, n := range v.Proof.Tree {
		ls = append(ls, n.Cycle)
	}
	for _, key := range slices.Sorted(maps.Keys(v.Proof.Orders)) {
		ls = append(ls, v.Proof.Orders[key])
	}
	return ls
}

func TestBytesAreNewMemory(t *testing.T) {
	source := rand.New(rand.NewSource(18))
	for range 300 {
		v := anyVerdict(source)
		was := roomy(v)
		b := Encode(was)
		if !reflect.DeepEqual(was, v) || !roomStands(was) {
			t.Fatal("Encode changes what it is given:", v)
		}
		had := slices.Clone(b)
		for _, l := range lists(was) {
			clear(l)
		}
		if !bytes.Equal(b, had) {
			t.Fatal("Encode's answer hangs on what it was given:", v)
		}
		clear(b[:cap(b)])
		if !bytes.Equal(Encode(v), had) {
			t.Fatal("two answers share memory:", v)
		}
		given := append(slices.Clone(had), 77)[:len(had)]
		back, _ := Decode(given)
		if !bytes.Equal(given, had) || given[:len(had)+1][len(had)] != 77 {
			t.Fatal("Decode changes what it is given:", v)
		}
		clear(given)
		if !sameVerdict(back, v) {
			t.Fatal("Decode's answer hangs on what it was given:", v)
		}
		holdUnshared(t, back)
		if back, _ = Decode(had); !sameVerdict(back, v) {
			t.Fatal("two answers share memory:", v)
		}
	}
}

// holdUnshared overwrites each list of an answer, and its room, and looks whether another one is changed by that.
func holdUnshared(t *testing.T, v check.Verdict) {
	t.Helper()
	ls := lists(v)
	for i, l := range ls {
		had := make([][]int, len(ls))
		for j, o := range ls {
			had[j] = slices.Clone(o)
		}
		for at := range l[:cap(l)] {
			l[:cap(l)][at] = -7
		}
		for j, o := range ls {
			if j != i && !slices.Equal(o, had[j]) {
				t.Fatal("two lists of one answer share memory:", v)
			}
		}
	}
}
