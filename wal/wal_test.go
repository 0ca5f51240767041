package wal_test

import (
	"bytes"
	"encoding/binary"
	"hash/crc32"
	"math"
	"slices"
	"strings"
	"testing"

	"crucible/api"
	"crucible/disk"
	"crucible/wal"
)

var castagnoli = crc32.MakeTable(crc32.Castagnoli)

// framed is a frame's bytes.
func framed(kind int, data []byte) []byte {
	b := binary.BigEndian.AppendUint32(nil, uint32(kind)<<24+uint32(len(data)))
	b = binary.BigEndian.AppendUint32(b, crc32.Checksum(b, castagnoli))
	b = binary.BigEndian.AppendUint32(b, crc32.Checksum(append(bytes.Clone(b), data...), castagnoli))
	return append(b, data...)
}

// num is a Num's bits as text.
func num(x uint64) string {
	n := 0
	for y := x + 1; y > 1; y /= 2 {
		n++
	}
	text := strings.Repeat("0", n)
	for i := n; i >= 0; i-- {
		text += string(rune('0' + (x+1)>>i&1))
	}
	return text
}

// filled is bits as bytes, with noughts up to the end of the last one.
func filled(text string) []byte {
	b := make([]byte, (len(text)+7)/8)
	for i, c := range text {
		if c == '1' {
			b[i/8] |= 0x80 >> (i % 8)
		}
	}
	return b
}

// headed is a Head's data.
func headed(turn, laid uint64, state string) []byte {
	part := filled(num(turn) + num(laid))
	return append(append([]byte{byte(len(part))}, part...), state...)
}

func head(turn, laid uint64, state string) []byte { return framed(wal.Head, headed(turn, laid, state)) }

func note(b string) []byte { return framed(wal.Note, []byte(b)) }

func joined(parts ...[]byte) []byte { return slices.Concat(parts...) }

// diskWith is a disk of much room with these bytes on its first tapes, safe.
func diskWith(t *testing.T, tapes ...[]byte) *disk.Disk {
	t.Helper()
	d := disk.New(1 << 20)
	for i, b := range tapes {
		if d.Append(i, b) != api.OK || d.Flush(i) != api.OK {
			t.Fatal("no room")
		}
	}
	return d
}

func opened(t *testing.T, d *disk.Disk) *wal.Log {
	t.Helper()
	l, e := wal.Open(d)
	if e != api.OK || l == nil {
		t.Fatal("Open:", e)
	}
	return l
}

// holdLog looks at all that a log tells.
func holdLog(t *testing.T, name string, l *wal.Log, turn int, state string, notes ...string) {
	t.Helper()
	s, ns := l.State()
	same := slices.EqualFunc(ns, notes, func(a []byte, b string) bool { return string(a) == b })
	if l.Turn() != turn || string(s) != state || !same {
		t.Errorf("%s: turn %d, %q, %q; want %d, %q, %q", name, l.Turn(), s, ns, turn, state, notes)
	}
}

func holdTape(t *testing.T, name string, d *disk.Disk, tape int, want []byte) {
	t.Helper()
	if b, e := d.Read(tape); e != api.OK || !bytes.Equal(b, want) {
		t.Errorf("%s: tape %d: %v, %d, want %v", name, tape, b, e, want)
	}
}

// holdOK stops a test at a call that is refused.
func holdOK(t *testing.T, es ...api.Errno) {
	t.Helper()
	for i, e := range es {
		if e != api.OK {
			t.Fatalf("call %d: %d", i, e)
		}
	}
}

func TestTheDocumentsExample(t *testing.T) {
	d := disk.New(1000)
	l := opened(t, d)
	holdLog(t, "new", l, 1, "")
	holdTape(t, "new", d, 0, nil)
	if b, _ := d.Read(1); len(b) == 0 {
		t.Error("nothing on tape 1")
	}
	holdOK(t, l.Check([]byte("s")))
	holdLog(t, "Check", l, 2, "s")
	holdOK(t, l.Append([]byte("a")), l.Sync(), l.Append([]byte("b")))
	holdLog(t, "Append", l, 2, "s", "a", "b")
	d.Crash([]int{3, 3})
	holdLog(t, "a loss of power", opened(t, d), 3, "s", "a")
}

func TestKinds(t *testing.T) {
	if wal.Head != 1 || wal.Note != 2 {
		t.Error(wal.Head, wal.Note)
	}
}

// TestBytes: what lies on the tapes, made by hand once, then by the chapter's words.
func TestBytes(t *testing.T) {
	if !bytes.Equal(headed(1, 0, "s"), []byte{1, 0b01010000, 's'}) || !bytes.Equal(headed(6, 2, ""), []byte{1, 0b00111011}) || !bytes.Equal(headed(7, 3, ""), []byte{2, 0b00010000, 0b01000000}) {
		t.Fatal("the tests' own heads", headed(1, 0, "s"), headed(6, 2, ""), headed(7, 3, ""))
	}
	d := disk.New(1000)
	l := opened(t, d)
	first := head(1, 0, "")
	holdTape(t, "new", d, 1, first)
	holdTape(t, "new", d, 0, nil)
	if d.Safe(1) != len(first) || d.Acts() != 3 {
		t.Error("new:", d.Safe(1), "safe", d.Acts(), "acts")
	}
	holdOK(t, l.Append([]byte("one")), l.Append(nil))
	holdTape(t, "Append", d, 1, joined(first, note("one"), note("")))
	if d.Safe(1) != len(first) || d.Acts() != 5 {
		t.Error("Append:", d.Safe(1), "safe", d.Acts(), "acts")
	}
	holdOK(t, l.Sync())
	if d.Safe(1) != len(first)+12+3+12 || d.Acts() != 6 {
		t.Error("Sync:", d.Safe(1), "safe", d.Acts(), "acts")
	}
	holdOK(t, l.Append([]byte("two")), l.Check([]byte("state")))
	second := head(2, 0, "state")
	holdTape(t, "Check", d, 0, second)
	holdTape(t, "Check leaves the tape of before", d, 1, joined(first, note("one"), note(""), note("two")))
	if d.Safe(0) != len(second) || d.Acts() != 10 {
		t.Error("Check:", d.Safe(0), "safe", d.Acts(), "acts")
	}
	holdOK(t, l.Append([]byte("three")), l.Check(nil), l.Append([]byte("four")))
	holdTape(t, "Check again", d, 1, joined(head(3, 0, ""), note("four")))
	holdTape(t, "Check again", d, 0, joined(second, note("three")))
	holdTape(t, "other tapes", d, 2, nil)
	holdTape(t, "other tapes", d, 3, nil)
	holdLog(t, "Check again", l, 3, "", "four")
}

func TestOpenOfAWholeLogIsNoAct(t *testing.T) {
	d := disk.New(1000)
	l := opened(t, d)
	holdOK(t, l.Append([]byte("a")), l.Append([]byte("b")), l.Sync())
	acts := d.Acts()
	l = opened(t, d)
	holdLog(t, "again", l, 1, "", "a", "b")
	if d.Acts() != acts {
		t.Error(d.Acts()-acts, "acts")
	}
	holdOK(t, l.Append([]byte("c")), l.Check([]byte("s")), l.Append([]byte("d")), l.Sync())
	acts = d.Acts()
	l = opened(t, d)
	holdLog(t, "of turn 2", l, 2, "s", "d")
	if d.Acts() != acts {
		t.Error(d.Acts()-acts, "acts")
	}
	holdOK(t, l.Append([]byte("e")))
	holdTape(t, "goes on behind them", d, 0, joined(head(2, 0, "s"), note("d"), note("e")))
}

// TestWhatCounts: tapes made by hand, and what Open tells of them.
func TestWhatCounts(t *testing.T) {
	odd, even := joined(head(5, 0, "odd"), note("a")), joined(head(4, 0, "even"), note("b"))
	for _, c := range []struct {
		name  string
		tapes [2][]byte
		turn  int
		state string
		notes []string
	}{
		{"nothing", [2][]byte{nil, nil}, 1, "", nil},
		{"the odd one", [2][]byte{nil, odd}, 5, "odd", []string{"a"}},
		{"the even one", [2][]byte{even, nil}, 4, "even", []string{"b"}},
		{"the greater turn, odd", [2][]byte{even, odd}, 5, "odd", []string{"a"}},
		{"the greater turn, even", [2][]byte{head(6, 0, "six"), odd}, 6, "six", nil},
		{"much greater", [2][]byte{head(1000, 0, "much"), head(3, 0, "three")}, 1000, "much", nil},
		{"no turn 0", [2][]byte{head(0, 0, "nought"), nil}, 1, "", nil},
		{"turn 1", [2][]byte{nil, head(1, 0, "one")}, 1, "one", nil},
		{"turn 2", [2][]byte{head(2, 0, "two"), nil}, 2, "two", nil},
		{"an odd turn on tape 0", [2][]byte{odd, nil}, 1, "", nil},
		{"an even turn on tape 1", [2][]byte{nil, head(6, 0, "six")}, 1, "", nil},
		{"an even turn on tape 1 beside a smaller one", [2][]byte{even, head(6, 0, "six")}, 4, "even", []string{"b"}},
		{"the greatest turn", [2][]byte{head(api.MaxTime, 0, "last"), odd}, api.MaxTime, "last", nil},
		{"a turn that is too great", [2][]byte{head(api.MaxTime+2, 0, "over"), odd}, 5, "odd", []string{"a"}},
		{"a turn that is too great, odd", [2][]byte{even, head(api.MaxTime+1, 0, "over")}, 4, "even", []string{"b"}},
		{"a turn that wraps", [2][]byte{even, head(1<<63+5, 0, "over")}, 4, "even", []string{"b"}},
		{"the greatest number as a turn", [2][]byte{even, framed(wal.Head, append([]byte{17}, filled(strings.Repeat("0", 64)+"1"+strings.Repeat("0", 64)+"1")...))}, 4, "even", []string{"b"}},
		{"a Note ahead", [2][]byte{even, joined(note("x"), odd)}, 4, "even", []string{"b"}},
		{"a Head of another kind", [2][]byte{even, framed(3, headed(5, 0, "odd"))}, 4, "even", []string{"b"}},
		{"kind 0", [2][]byte{even, framed(0, headed(5, 0, "odd"))}, 4, "even", []string{"b"}},
		{"a Head with no data", [2][]byte{even, framed(wal.Head, nil)}, 4, "even", []string{"b"}},
		{"notes laid with it", [2][]byte{even, joined(head(5, 2, "odd"), note("x"), note("y"))}, 5, "odd", []string{"x", "y"}},
		{"more than were laid with it", [2][]byte{even, joined(head(5, 1, "odd"), note("x"), note("y"))}, 5, "odd", []string{"x", "y"}},
		{"fewer than were laid with it", [2][]byte{even, joined(head(5, 2, "odd"), note("x"))}, 4, "even", []string{"b"}},
		{"none of those laid with it", [2][]byte{even, head(5, 1, "odd")}, 4, "even", []string{"b"}},
		{"a great number laid with it", [2][]byte{even, joined(head(5, math.MaxUint64-1, "odd"), note("x"))}, 4, "even", []string{"b"}},
		{"all frames behind are notes", [2][]byte{even, joined(head(5, 3, "odd"), framed(0, []byte("x")), head(9, 0, ""), framed(255, nil))}, 5, "odd", []string{"x", string(headed(9, 0, "")), ""}},
		{"a state that looks like a Head", [2][]byte{even, head(5, 0, string(head(7, 0, "")))}, 5, string(head(7, 0, "")), nil},
	} {
		d := diskWith(t, c.tapes[0], c.tapes[1])
		holdLog(t, c.name, opened(t, d), c.turn, c.state, c.notes...)
	}
}

// TestHeadsForm: the part ahead of the state is of one form; a Head of another one is none.
func TestHeadsForm(t *testing.T) {
	odd, right := num(5), filled(num(5)+num(0))
	for _, c := range []struct {
		name string
		data []byte
		ok   bool
	}{
		{"right", append([]byte{byte(len(right))}, right...), true},
		{"less than there is", append([]byte{byte(len(right)) - 1}, right...), false},
		{"no part", append([]byte{0}, right...), false},
		{"more than there is", append([]byte{byte(len(right)) + 1}, right...), false},
		{"255 of fewer", append([]byte{255}, right...), false},
		{"a byte of noughts behind", append([]byte{byte(len(right)) + 1}, append(bytes.Clone(right), 0)...), false},
		{"255 bytes", append([]byte{255}, append(bytes.Clone(right), make([]byte, 255)...)...), false},
		{"a 1 behind", append([]byte{1}, filled(odd+num(0)+"01")...), false},
		{"no count", append([]byte{1}, filled(odd)...), false},
		{"half a count", append([]byte{1}, filled(odd+"001")...), false},
		{"65 noughts", append([]byte{17}, filled(strings.Repeat("0", 65)+"1"+strings.Repeat("0", 70))...), false},
		{"nothing but a length", []byte{1}, false},
		{"a length of none", []byte{0}, false},
	} {
		d := diskWith(t, head(2, 0, "even"), framed(wal.Head, c.data))
		l := opened(t, d)
		if c.ok {
			holdLog(t, c.name, l, 5, "")
		} else {
			holdLog(t, c.name, l, 2, "even")
		}
	}
}

// TestHeadIsNotReadBeyondItsEnd: a part that is said to be a byte longer than the data isn't filled up with a nought.
func TestHeadIsNotReadBeyondItsEnd(t *testing.T) {
	part := filled(num(5) + num(3))
	if len(part) != 2 || part[1] != 0 {
		t.Fatal("the test's own part", part)
	}
	notes := bytes.Repeat(note(""), 3)
	d := diskWith(t, head(2, 0, "even"), joined(framed(wal.Head, []byte{2, part[0], part[1]}), notes))
	holdLog(t, "whole", opened(t, d), 5, "", "", "", "")
	d = diskWith(t, head(2, 0, "even"), joined(framed(wal.Head, []byte{2, part[0]}), notes))
	holdLog(t, "cut", opened(t, d), 2, "even")
	for n := 1; n < 256; n++ {
		data := make([]byte, n)
		data[0] = byte(n)
		holdLog(t, "cut", opened(t, diskWith(t, head(2, 0, "even"), framed(wal.Head, data))), 2, "even")
	}
}

// TestHeadOfNoEndIsNone: what begins with half a Head begins with none.
func TestHeadOfNoEndIsNone(t *testing.T) {
	whole := joined(head(5, 1, "odd"), note("note"))
	for n := range whole {
		l := opened(t, diskWith(t, head(2, 0, "even"), whole[:n]))
		holdLog(t, "cut", l, 2, "even")
		cut := bytes.Clone(whole)
		cut[n] ^= 4
		holdLog(t, "turned", opened(t, diskWith(t, head(2, 0, "even"), cut)), 2, "even")
	}
	holdLog(t, "whole", opened(t, diskWith(t, head(2, 0, "even"), whole)), 5, "odd", "note")
}

// TestOpenLaysAnew: bytes that stand behind the last whole frame go, and the log is on the other tape with its notes.
func TestOpenLaysAnew(t *testing.T) {
	for _, junk := range [][]byte{{0}, note("c")[:12], note("cc")[:13], bytes.Repeat([]byte{7}, 40), joined([]byte{1}, note("c"))} {
		for _, other := range [][]byte{nil, []byte("junk"), head(3, 0, "older"), head(9, 1, "of notes that aren't there")} {
			old := joined(head(6, 1, "state"), note("a"), note("b"), junk)
			d := diskWith(t, old, other)
			acts := d.Acts()
			l := opened(t, d)
			holdLog(t, "laid anew", l, 7, "state", "a", "b")
			holdTape(t, "laid anew", d, 1, joined(head(7, 2, "state"), note("a"), note("b")))
			holdTape(t, "laid anew", d, 0, old)
			if n := d.Safe(1); n != len(head(7, 2, "state"))+26 || d.Acts() != acts+3 {
				t.Error("laid anew:", n, "safe", d.Acts()-acts, "acts")
			}
			holdOK(t, l.Append([]byte("c")))
			holdTape(t, "goes on there", d, 1, joined(head(7, 2, "state"), note("a"), note("b"), note("c")))
			holdLog(t, "again", opened(t, d), 7, "state", "a", "b", "c")
		}
	}
}

// TestOpenLaysNotesAsNotes: frames of other kinds behind a Head are laid anew as Notes.
func TestOpenLaysNotesAsNotes(t *testing.T) {
	d := diskWith(t, nil, joined(head(1, 0, ""), framed(9, []byte("x")), head(4, 0, "y"), []byte("junk")))
	holdLog(t, "other kinds", opened(t, d), 2, "", "x", string(headed(4, 0, "y")))
	holdTape(t, "other kinds", d, 0, joined(head(2, 2, ""), note("x"), note(string(headed(4, 0, "y")))))
}

// TestOpenLaysANewOne: where no tape counts, what lies on tape 1 goes.
func TestOpenLaysANewOne(t *testing.T) {
	junk := []byte("junk")
	d := diskWith(t, junk, junk, junk, junk)
	holdLog(t, "new", opened(t, d), 1, "")
	holdTape(t, "new", d, 1, head(1, 0, ""))
	for _, tape := range []int{0, 2, 3} {
		holdTape(t, "new", d, tape, junk)
	}
	if d.Safe(1) != len(head(1, 0, "")) {
		t.Error(d.Safe(1))
	}
}

// TestJunkOnTheOtherTape: nothing is laid anew for what the tape that counts hasn't.
func TestJunkOnTheOtherTape(t *testing.T) {
	for _, junk := range [][]byte{[]byte("junk"), joined(head(3, 0, ""), []byte("junk")), head(5, 2, "")} {
		d := diskWith(t, head(4, 0, "s"), junk)
		acts := d.Acts()
		holdLog(t, "clean", opened(t, d), 4, "s")
		if d.Acts() != acts {
			t.Error(d.Acts()-acts, "acts")
		}
		holdTape(t, "clean", d, 1, junk)
	}
	d := diskWith(t, joined(head(2, 0, "older"), []byte("junk")), head(3, 0, "s"))
	acts := d.Acts()
	holdLog(t, "clean, of the other turn", opened(t, d), 3, "s")
	if d.Acts() != acts {
		t.Error(d.Acts()-acts, "acts")
	}
}

func TestOpenRefused(t *testing.T) {
	refused := func(name string, d *disk.Disk, want api.Errno) {
		t.Helper()
		if l, e := wal.Open(d); e != want || l != nil {
			t.Errorf("%s: %v, %d, want %d", name, l, e, want)
		}
	}
	refused("no disk", nil, api.ErrArg)
	d := diskWith(t, head(2, 0, "s"))
	d.Fuse(1)
	d.Flush(3)
	refused("no power", d, api.ErrDown)
	for fuse := 1; fuse <= 3; fuse++ {
		d := disk.New(100)
		d.Fuse(fuse)
		refused("the power goes", d, api.ErrDown)
		if !d.Down() || d.Acts() != fuse-1 {
			t.Error(d.Down(), d.Acts())
		}
		d.Crash([]int{0, 99})
		turn := 1
		if fuse == 1 {
			holdTape(t, "the power went", d, 1, nil)
		}
		holdLog(t, "again", opened(t, d), turn, "")
	}
	size := len(head(1, 0, ""))
	refused("no room", disk.New(0), api.ErrFull)
	refused("too little room", disk.New(size-1), api.ErrFull)
	holdLog(t, "just enough room", opened(t, disk.New(size)), 1, "")
}

// TestOpenHasNoRoomToLayAnew: a Head that has more notes laid with it is longer.
func TestOpenHasNoRoomToLayAnew(t *testing.T) {
	old := joined(head(6, 0, "s"), note("a"), []byte{1})
	laid := joined(head(7, 1, "s"), note("a"))
	if len(laid) != len(old) {
		t.Fatal(len(laid), len(old))
	}
	for room := len(old); room < len(old)+2; room++ {
		d := disk.New(room)
		rest := make([]byte, room-len(old))
		holdOK(t, d.Append(0, joined(old, rest)), d.Flush(0), d.Append(1, []byte("junk")), d.Flush(1))
		holdLog(t, "just enough room", opened(t, d), 7, "s", "a")
	}
	older := joined(head(6, 0, "s"), note("a"), note(""), []byte{1})
	d := disk.New(len(older))
	holdOK(t, d.Append(0, older), d.Flush(0))
	holdLog(t, "two notes", opened(t, d), 7, "s", "a", "")
	// Of 127 notes the count needs two bytes more than of none.
	many := bytes.Repeat(note(""), 127)
	big := joined(head(30, 0, "s"), many, []byte{1})
	if len(joined(head(31, 127, "s"), many)) != len(big)+1 {
		t.Fatal("the test's own numbers")
	}
	d = disk.New(len(big))
	holdOK(t, d.Append(0, big), d.Flush(0), d.Append(1, []byte("junk")), d.Flush(1))
	for range 2 {
		if l, e := wal.Open(d); e != api.ErrFull || l != nil {
			t.Error(l, e)
		}
	}
	holdTape(t, "no room", d, 0, big)
	holdTape(t, "no room", d, 1, nil)
	d.Crash([]int{-1, -1})
	holdTape(t, "the clear wasn't flushed", d, 1, []byte("junk"))
}

// TestOpenOfAStateThatIsTooLong: such a one only lies on a tape that no Check has laid.
func TestOpenOfAStateThatIsTooLong(t *testing.T) {
	state := strings.Repeat("s", api.MaxBytes-2)
	whole := head(1, 0, state)
	holdLog(t, "whole", opened(t, diskWith(t, nil, whole)), 1, state)
	d := diskWith(t, []byte("junk"), joined(whole, []byte{1}))
	holdLog(t, "laid anew", opened(t, d), 2, state)
	d = diskWith(t, []byte("junk"), joined(whole, note(""), note(""), note(""), note(""), note(""), note(""), note(""), []byte{1}))
	acts := d.Acts()
	if l, e := wal.Open(d); e != api.ErrLong || l != nil || d.Acts() != acts {
		t.Error(l, e, d.Acts()-acts)
	}
}

func TestAppend(t *testing.T) {
	d := disk.New(1 << 20)
	l := opened(t, d)
	long := strings.Repeat("n", api.MaxBytes)
	holdOK(t, l.Append([]byte(long)), l.Append([]byte{}))
	if e := l.Append(make([]byte, api.MaxBytes+1)); e != api.ErrLong {
		t.Error(e)
	}
	holdLog(t, "long ones", l, 1, "", long, "")
	holdTape(t, "long ones", d, 1, joined(head(1, 0, ""), note(long), note("")))
	holdLog(t, "long ones", opened(t, d), 1, "", long, "")
}

func TestNoRoom(t *testing.T) {
	size := len(head(1, 0, ""))
	d := disk.New(size + 14)
	l := opened(t, d)
	for _, b := range []string{"abc", strings.Repeat("x", api.MaxBytes)} {
		if e := l.Append([]byte(b)); e != api.ErrFull || l.Dead() {
			t.Error(e, l.Dead())
		}
	}
	holdLog(t, "stays as it is", l, 1, "")
	holdTape(t, "stays as it is", d, 1, head(1, 0, ""))
	holdOK(t, l.Append([]byte("ab")))
	if e := l.Append(nil); e != api.ErrFull {
		t.Error(e)
	}
	holdOK(t, l.Sync())
	// A Check that has no room takes what lies on the other tape away, and nothing else.
	holdOK(t, d.Append(0, []byte("junk")), d.Flush(0))
	acts := d.Acts()
	if e := l.Check(make([]byte, 15)); e != api.ErrFull || l.Dead() || d.Acts() != acts+1 {
		t.Error(e, l.Dead(), d.Acts()-acts)
	}
	holdLog(t, "stays as it is", l, 1, "", "ab")
	holdTape(t, "stays as it is", d, 1, joined(head(1, 0, ""), note("ab")))
	holdTape(t, "cleared", d, 0, nil)
	if e := l.Append(nil); e != api.ErrFull {
		t.Error(e)
	}
	holdLog(t, "again", opened(t, d), 1, "", "ab")
	holdOK(t, l.Check(make([]byte, 14)))
	holdLog(t, "just enough room", l, 2, string(make([]byte, 14)))
	holdLog(t, "again", opened(t, d), 2, string(make([]byte, 14)))
}

func TestCheckOfALongState(t *testing.T) {
	d := disk.New(1 << 20)
	l := opened(t, d)
	holdOK(t, l.Append([]byte("a")))
	acts := d.Acts()
	for _, n := range []int{api.MaxBytes - 19, api.MaxBytes, api.MaxBytes + 1, 3 * api.MaxBytes} {
		if e := l.Check(make([]byte, n)); e != api.ErrLong || d.Acts() != acts {
			t.Errorf("%d bytes: %d, %d acts", n, e, d.Acts()-acts)
		}
	}
	holdLog(t, "stays as it is", l, 1, "", "a")
	for i, n := range []int{api.MaxBytes - 20, api.MaxBytes - 21, 1, 0} {
		state := strings.Repeat("s", n)
		holdOK(t, l.Check([]byte(state)))
		holdLog(t, "Check", l, 2+i, state)
		holdLog(t, "Check, opened again", opened(t, d), 2+i, state)
	}
	// The longest state of the greatest turn, with many notes, can be laid anew.
	state := strings.Repeat("s", api.MaxBytes-20)
	many := bytes.Repeat(note(""), 70000)
	d = disk.New(1 << 22)
	holdOK(t, d.Append(1, joined(head(api.MaxTime-1, 0, state), many, []byte{1})))
	l = opened(t, d)
	if s, ns := l.State(); l.Turn() != api.MaxTime || string(s) != state || len(ns) != 70000 {
		t.Error(l.Turn(), len(s), len(ns))
	}
	if l = opened(t, d); l.Turn() != api.MaxTime {
		t.Error(l.Turn())
	}
}

// calls is what all calls of a log that answer an error answer.
func calls(l *wal.Log, b []byte) []api.Errno { return []api.Errno{l.Append(b), l.Sync(), l.Check(b)} }

func TestNilLog(t *testing.T) {
	var l *wal.Log
	for _, b := range [][]byte{nil, []byte("a"), make([]byte, api.MaxBytes+1)} {
		if es := calls(l, b); !slices.Equal(es, []api.Errno{api.ErrArg, api.ErrArg, api.ErrArg}) {
			t.Error(es)
		}
	}
	holdLog(t, "nil", l, 0, "")
	if l.Dead() {
		t.Error("dead")
	}
}

func TestLogThatOpenHasNotMade(t *testing.T) {
	l := &wal.Log{}
	if es := calls(l, []byte("a")); !slices.Equal(es, []api.Errno{api.ErrArg, api.ErrArg, api.ErrArg}) || l.Dead() {
		t.Error(es, l.Dead())
	}
	if l.Append(make([]byte, api.MaxBytes+1)) != api.ErrLong || l.Check(make([]byte, api.MaxBytes)) != api.ErrLong {
		t.Error("what is too long")
	}
	holdLog(t, "nothing", l, 0, "")
}

// TestDead: a call that met ErrDown ends a log for good.
func TestDead(t *testing.T) {
	down := []api.Errno{api.ErrDown, api.ErrDown, api.ErrDown}
	for _, c := range []struct {
		name string
		fuse int
		call func(l *wal.Log) api.Errno
	}{
		{"Append", 1, func(l *wal.Log) api.Errno { return l.Append([]byte("b")) }},
		{"Sync", 1, func(l *wal.Log) api.Errno { return l.Sync() }},
		{"Check, its Clear", 1, func(l *wal.Log) api.Errno { return l.Check([]byte("t")) }},
		{"Check, its Append", 2, func(l *wal.Log) api.Errno { return l.Check([]byte("t")) }},
		{"Check, its Flush", 3, func(l *wal.Log) api.Errno { return l.Check([]byte("t")) }},
	} {
		d := disk.New(1000)
		l := opened(t, d)
		holdOK(t, l.Check([]byte("s")), l.Append([]byte("a")))
		acts := d.Acts()
		d.Fuse(c.fuse)
		if l.Dead() {
			t.Errorf("%s: dead too soon", c.name)
		}
		if e := c.call(l); e != api.ErrDown || !l.Dead() || d.Acts() != acts+c.fuse-1 {
			t.Errorf("%s: %d, %t, %d acts", c.name, e, l.Dead(), d.Acts()-acts)
		}
		holdLog(t, c.name, l, 2, "s", "a")
		for range 2 {
			// ErrDown is named ahead of what is too long.
			for _, b := range [][]byte{nil, []byte("b"), make([]byte, api.MaxBytes+1)} {
				if es := calls(l, b); !slices.Equal(es, down) || !l.Dead() {
					t.Errorf("%s: %v", c.name, es)
				}
			}
			holdLog(t, c.name, l, 2, "s", "a")
			d.Crash(nil)
		}
		if d.Acts() != acts+c.fuse-1 {
			t.Errorf("%s: a dead log does acts", c.name)
		}
	}
}

// TestPowerThatNobodyMet: a log whose disk's power went under another one knows nothing of it till it meets it.
func TestPowerThatNobodyMet(t *testing.T) {
	d := disk.New(1000)
	l := opened(t, d)
	d.Fuse(1)
	d.Flush(3)
	if l.Dead() {
		t.Error("dead too soon")
	}
	if l.Append(make([]byte, api.MaxBytes+1)) != api.ErrLong || l.Check(make([]byte, api.MaxBytes-19)) != api.ErrLong || l.Dead() {
		t.Error("what is too long is named ahead of the disk's error")
	}
	if e := l.Append([]byte("a")); e != api.ErrDown || !l.Dead() {
		t.Error(e, l.Dead())
	}
	holdLog(t, "dead", l, 1, "")
}

func TestWhatIsHandedInIsNotKept(t *testing.T) {
	l := opened(t, disk.New(1000))
	state, first, second := []byte("state...."), []byte("first...."), []byte("second...")
	holdOK(t, l.Check(state[:5]), l.Append(first[:5]), l.Append(second[:6]))
	for _, b := range [][]byte{state, first, second} {
		if string(b[6:]) != "..." {
			t.Error("changed:", string(b))
		}
		for i := range b {
			b[i] = 'x'
		}
	}
	holdLog(t, "not kept", l, 2, "state", "first", "second")
}

func TestAnswersAreNew(t *testing.T) {
	d := disk.New(1000)
	l := opened(t, d)
	holdOK(t, l.Check([]byte("state")), l.Append([]byte("one")), l.Append([]byte("two")))
	d.Crash([]int{99})
	for _, l := range []*wal.Log{l, opened(t, d)} {
		for range 2 {
			s, ns := l.State()
			s = append(s, 'x')
			for i := range ns {
				ns[i] = append(ns[i], 'x')
				for j := range ns[i] {
					ns[i][j] = 'x'
				}
			}
			for i := range s {
				s[i] = 'x'
			}
			ns = append(ns, nil)
			ns[0] = nil
			if string(ns[1]) != "xxxx" {
				t.Error("lists of one answer share memory:", ns)
			}
		}
		holdLog(t, "State's answers are the asker's", l, 2, "state", "one", "two")
	}
}

func TestAnswersStay(t *testing.T) {
	l := opened(t, disk.New(1000))
	holdOK(t, l.Check([]byte("state")), l.Append([]byte("one")))
	s, ns := l.State()
	holdOK(t, l.Append([]byte("two")), l.Check([]byte("other")), l.Append([]byte("three")))
	if string(s) != "state" || len(ns) != 1 || string(ns[0]) != "one" {
		t.Error(string(s), ns)
	}
	holdLog(t, "later", l, 3, "other", "three")
}

// TestLogsNeverMeet: neither by their own memory, nor two that were opened on one disk by their states.
func TestLogsNeverMeet(t *testing.T) {
	d := disk.New(1000)
	a := opened(t, d)
	holdOK(t, a.Append([]byte("a")), a.Append([]byte("b")), a.Append([]byte("c")))
	b, c := opened(t, d), opened(t, disk.New(1000))
	holdOK(t, b.Append([]byte("d")), c.Check([]byte("c")))
	holdLog(t, "one", a, 1, "", "a", "b", "c")
	holdLog(t, "the other one", b, 1, "", "a", "b", "c", "d")
	holdOK(t, a.Append([]byte("e")))
	holdLog(t, "the other one", b, 1, "", "a", "b", "c", "d")
	d.Fuse(1)
	if e := a.Sync(); e != api.ErrDown || !a.Dead() || b.Dead() || c.Dead() {
		t.Error(e, a.Dead(), b.Dead(), c.Dead())
	}
	holdOK(t, c.Sync())
	holdLog(t, "of another disk", c, 2, "c")
}
