package disk_test

import (
	"bytes"
	"math"
	"math/rand"
	"slices"
	"testing"

	"crucible/api"
	"crucible/disk"
)

// holdTape looks at what a disk tells of a tape.
func holdTape(t *testing.T, name string, d *disk.Disk, tape int, want string, safe int) {
	t.Helper()
	if b, e := d.Read(tape); e != api.OK || string(b) != want {
		t.Errorf("%s: tape %d: %q, %d, want %q", name, tape, b, e, want)
	}
	if d.Safe(tape) != safe {
		t.Errorf("%s: tape %d: %d safe, want %d", name, tape, d.Safe(tape), safe)
	}
}

// holdOK stops a test at a call that is refused.
func holdOK(t *testing.T, es ...api.Errno) {
	t.Helper()
	for i, e := range es {
		if e != api.OK {
			t.Fatalf("call %d: %d", i, e)
		}
	}
}

// fourCalls is what all calls that answer an error answer.
func fourCalls(d *disk.Disk, tape int, b []byte) []api.Errno {
	_, e := d.Read(tape)
	return []api.Errno{d.Append(tape, b), d.Clear(tape), d.Flush(tape), e}
}

func all(e api.Errno) []api.Errno { return []api.Errno{e, e, e, e} }

func TestTheDocumentsExample(t *testing.T) {
	start := func() *disk.Disk {
		d := disk.New(10)
		holdOK(t, d.Append(0, []byte("ab")), d.Flush(0), d.Append(0, []byte("cd")))
		d.Crash([]int{1})
		holdTape(t, "torn", d, 0, "abc", 3)
		holdOK(t, d.Clear(0), d.Append(0, []byte("x")))
		return d
	}
	d := start()
	d.Crash([]int{-1})
	holdTape(t, "the clear is taken back", d, 0, "abc", 3)
	d = start()
	d.Crash([]int{1})
	holdTape(t, "the clear is done", d, 0, "x", 1)
}

func TestNewIsEmpty(t *testing.T) {
	if disk.Tapes != 4 {
		t.Error(disk.Tapes)
	}
	for _, d := range []*disk.Disk{disk.New(5), disk.New(0), {}} {
		for tape := range disk.Tapes {
			holdTape(t, "new", d, tape, "", 0)
		}
		if d.Acts() != 0 || d.Down() {
			t.Error(d.Acts(), d.Down())
		}
	}
}

func TestRoom(t *testing.T) {
	const most = 1 << 22
	for _, c := range []struct{ asked, room int }{
		{math.MinInt, 0}, {-1, 0}, {0, 0}, {1, 1}, {2, 2}, {1000, 1000},
		{most - 1, most - 1}, {most, most}, {most + 1, most}, {math.MaxInt, most},
	} {
		for _, tape := range []int{0, disk.Tapes - 1} {
			d := disk.New(c.asked)
			if e := d.Append(tape, make([]byte, c.room+1)); e != api.ErrFull {
				t.Errorf("room %d: one too many: %d", c.asked, e)
			}
			if e := d.Append(tape, make([]byte, c.room)); e != api.OK {
				t.Errorf("room %d: all: %d", c.asked, e)
			}
			if e := d.Append(tape, []byte{1}); e != api.ErrFull {
				t.Errorf("room %d: behind all: %d", c.asked, e)
			}
			if e := d.Append(tape, nil); e != api.OK {
				t.Errorf("room %d: nothing behind all: %d", c.asked, e)
			}
			if b, _ := d.Read(tape); len(b) != c.room {
				t.Errorf("room %d: %d bytes", c.asked, len(b))
			}
		}
	}
}

func TestRoomIsEachTapesOwn(t *testing.T) {
	d := disk.New(3)
	for tape := range disk.Tapes {
		holdOK(t, d.Append(tape, []byte("ab")), d.Append(tape, []byte("c")))
		if e := d.Append(tape, []byte("d")); e != api.ErrFull {
			t.Error(tape, e)
		}
	}
	for tape := range disk.Tapes {
		holdTape(t, "full", d, tape, "abc", 0)
		holdOK(t, d.Clear(tape), d.Append(tape, []byte("xyz")))
		holdTape(t, "full again", d, tape, "xyz", 0)
	}
}

func TestAppendsStandBehindOneAnother(t *testing.T) {
	d := disk.New(100)
	holdOK(t, d.Append(2, []byte("one")), d.Append(2, nil), d.Append(1, []byte("other")), d.Append(2, []byte("two")))
	holdTape(t, "appended", d, 2, "onetwo", 0)
	holdTape(t, "appended", d, 1, "other", 0)
	holdTape(t, "appended", d, 0, "", 0)
	holdOK(t, d.Flush(2), d.Append(2, []byte("three")))
	holdTape(t, "flushed", d, 2, "onetwothree", 6)
	holdTape(t, "not flushed", d, 1, "other", 0)
	holdOK(t, d.Clear(2))
	holdTape(t, "cleared", d, 2, "", 0)
	holdOK(t, d.Append(2, []byte("four")))
	holdTape(t, "cleared, and not flushed since", d, 2, "four", 0)
	holdOK(t, d.Flush(2))
	holdTape(t, "flushed since", d, 2, "four", 4)
}

func TestNoSuchTape(t *testing.T) {
	for _, tape := range []int{math.MinInt, -1, disk.Tapes, disk.Tapes + 1, 1 << 32, math.MaxInt} {
		d := disk.New(4)
		d.Fuse(1)
		if es := fourCalls(d, tape, make([]byte, 9)); !slices.Equal(es, all(api.ErrArg)) {
			t.Errorf("tape %d: %v", tape, es)
		}
		if b, _ := d.Read(tape); len(b) != 0 || d.Safe(tape) != 0 {
			t.Errorf("tape %d: %q, %d", tape, b, d.Safe(tape))
		}
		if d.Down() || d.Acts() != 0 {
			t.Errorf("tape %d: a call that is ErrArg was an act", tape)
		}
		if e := d.Flush(0); e != api.ErrDown {
			t.Errorf("tape %d: the fuse is away: %d", tape, e)
		}
		if es := fourCalls(d, tape, nil); !slices.Equal(es, all(api.ErrArg)) {
			t.Errorf("tape %d, the power is off: %v", tape, es)
		}
	}
}

func TestNilDisk(t *testing.T) {
	var d *disk.Disk
	for _, tape := range []int{-1, 0, 3, 4} {
		if es := fourCalls(d, tape, []byte("a")); !slices.Equal(es, all(api.ErrArg)) {
			t.Errorf("tape %d: %v", tape, es)
		}
		if b, _ := d.Read(tape); len(b) != 0 || d.Safe(tape) != 0 {
			t.Error(b, d.Safe(tape))
		}
	}
	d.Fuse(1)
	d.Crash(nil)
	d.Crash([]int{1, 2, 3, 4})
	if d.Acts() != 0 || d.Down() {
		t.Error(d.Acts(), d.Down())
	}
}

func TestThePowerIsOff(t *testing.T) {
	d := disk.New(4)
	holdOK(t, d.Append(0, []byte("ab")), d.Flush(0), d.Append(1, []byte("cd")), d.Flush(1))
	d.Fuse(1)
	if e := d.Append(0, []byte("c")); e != api.ErrDown || !d.Down() {
		t.Fatal(e, d.Down())
	}
	for tape := range disk.Tapes {
		// Bytes that don't fit, as well: ErrDown is named first.
		for _, b := range [][]byte{nil, []byte("x"), make([]byte, 9)} {
			if es := fourCalls(d, tape, b); !slices.Equal(es, all(api.ErrDown)) {
				t.Errorf("tape %d: %v", tape, es)
			}
		}
		if b, _ := d.Read(tape); len(b) != 0 || d.Safe(tape) != 0 {
			t.Errorf("tape %d: %q, %d", tape, b, d.Safe(tape))
		}
	}
	d.Fuse(0)
	d.Fuse(-1)
	d.Fuse(7)
	if !d.Down() || d.Acts() != 4 {
		t.Error(d.Down(), d.Acts())
	}
	d.Crash([]int{9, 9, 9, 9})
	if d.Down() || d.Acts() != 4 {
		t.Error(d.Down(), d.Acts())
	}
	holdTape(t, "what was done in the act that failed", d, 0, "abc", 3)
	holdTape(t, "nothing was done without power", d, 1, "cd", 2)
	holdTape(t, "nothing was done without power", d, 2, "", 0)
	for range 9 {
		if e := d.Flush(0); e != api.OK {
			t.Fatal("a fuse is left:", e)
		}
	}
}

func TestFuseCountsActs(t *testing.T) {
	for n := 1; n < 20; n++ {
		for begun := range 4 {
			d := disk.New(4)
			for range begun {
				holdOK(t, d.Flush(3))
			}
			d.Fuse(n)
			for i := 1; i < n; i++ {
				// Calls that are no acts stand between: refused ones, and what only looks.
				if e := d.Append(0, make([]byte, 9)); e != api.ErrFull {
					t.Fatal(e)
				}
				if e := d.Clear(4); e != api.ErrArg {
					t.Fatal(e)
				}
				d.Read(0)
				d.Safe(0)
				switch i % 3 {
				case 0:
					holdOK(t, d.Append(0, nil))
				case 1:
					holdOK(t, d.Clear(1))
				case 2:
					holdOK(t, d.Flush(2))
				}
				if d.Acts() != begun+i || d.Down() {
					t.Fatalf("fuse %d: act %d: %d, %t", n, i, d.Acts(), d.Down())
				}
			}
			if e := d.Append(0, make([]byte, 9)); e != api.ErrFull || d.Down() {
				t.Errorf("fuse %d: ErrFull is no act: %d", n, e)
			}
			if e := []api.Errno{d.Append(0, nil), d.Clear(0), d.Flush(0)}; e[0] != api.ErrDown || !d.Down() || d.Acts() != begun+n-1 {
				t.Errorf("fuse %d: %v, %t, %d acts", n, e, d.Down(), d.Acts())
			}
		}
	}
}

func TestFuseThatIsNone(t *testing.T) {
	for _, n := range []int{math.MinInt, -1, 0, 40, math.MaxInt} {
		d := disk.New(4)
		// It takes the place of one that is there.
		d.Fuse(2)
		holdOK(t, d.Flush(0))
		d.Fuse(n)
		for range 39 {
			if e := d.Flush(0); e != api.OK {
				t.Fatalf("fuse %d: %d", n, e)
			}
		}
		if d.Down() || d.Acts() != 40 {
			t.Errorf("fuse %d: %t, %d", n, d.Down(), d.Acts())
		}
	}
}

func TestCrashTakesTheFuseAway(t *testing.T) {
	d := disk.New(4)
	d.Fuse(3)
	holdOK(t, d.Flush(0))
	d.Crash(nil)
	for range 9 {
		holdOK(t, d.Flush(0))
	}
	if d.Acts() != 10 {
		t.Error(d.Acts())
	}
}

// TestTheActThatFails: an Append or Clear is done, and isn't safe; a Flush does nothing.
func TestTheActThatFails(t *testing.T) {
	start := func() *disk.Disk {
		d := disk.New(9)
		holdOK(t, d.Append(1, []byte("ab")), d.Flush(1), d.Append(1, []byte("cd")))
		d.Fuse(1)
		return d
	}
	for _, c := range []struct {
		name string
		act  func(d *disk.Disk) api.Errno
		keep int
		want string
	}{
		{"Append, all", func(d *disk.Disk) api.Errno { return d.Append(1, []byte("ef")) }, 9, "abcdef"},
		{"Append, some", func(d *disk.Disk) api.Errno { return d.Append(1, []byte("ef")) }, 3, "abcde"},
		{"Append, none", func(d *disk.Disk) api.Errno { return d.Append(1, []byte("ef")) }, 0, "ab"},
		{"Append, below none", func(d *disk.Disk) api.Errno { return d.Append(1, []byte("ef")) }, -1, "ab"},
		{"Clear", func(d *disk.Disk) api.Errno { return d.Clear(1) }, 0, ""},
		{"Clear, all", func(d *disk.Disk) api.Errno { return d.Clear(1) }, 9, ""},
		{"Clear, taken back", func(d *disk.Disk) api.Errno { return d.Clear(1) }, -1, "ab"},
		{"Flush", func(d *disk.Disk) api.Errno { return d.Flush(1) }, 0, "ab"},
		{"Flush, some", func(d *disk.Disk) api.Errno { return d.Flush(1) }, 1, "abc"},
	} {
		d := start()
		if e := c.act(d); e != api.ErrDown || d.Acts() != 3 {
			t.Errorf("%s: %d, %d acts", c.name, e, d.Acts())
		}
		d.Crash([]int{7, c.keep})
		holdTape(t, c.name, d, 1, c.want, len(c.want))
	}
	d := disk.New(9)
	holdOK(t, d.Append(0, []byte("ab")), d.Flush(0), d.Clear(0), d.Append(0, []byte("xy")))
	d.Fuse(1)
	if e := d.Flush(0); e != api.ErrDown {
		t.Fatal(e)
	}
	d.Crash([]int{-1})
	holdTape(t, "a Flush that failed leaves the clear unsafe", d, 0, "ab", 2)
}

func TestCrashKeeps(t *testing.T) {
	for _, c := range []struct {
		keep          int
		kept, cleared string
	}{
		{math.MinInt, "ab", "ab"}, {-7, "ab", "ab"}, {-1, "ab", "ab"},
		{0, "ab", ""}, {1, "abc", "x"}, {2, "abcd", "xy"}, {3, "abcde", "xyz"},
		{4, "abcde", "xyz"}, {100, "abcde", "xyz"}, {math.MaxInt, "abcde", "xyz"},
	} {
		d := disk.New(9)
		holdOK(t, d.Append(0, []byte("ab")), d.Flush(0), d.Append(0, []byte("cde")))
		holdOK(t, d.Append(3, []byte("ab")), d.Flush(3), d.Append(3, []byte("cde")), d.Clear(3), d.Append(3, []byte("xyz")))
		d.Crash([]int{c.keep, 5, 5, c.keep, c.keep, 8})
		holdTape(t, "kept", d, 0, c.kept, len(c.kept))
		holdTape(t, "nothing", d, 1, "", 0)
		holdTape(t, "cleared", d, 3, c.cleared, len(c.cleared))
	}
}

func TestCrashKeepsByPlace(t *testing.T) {
	for n := range 7 {
		d := disk.New(9)
		want := []string{"", "", "", ""}
		keeps := []int{}
		for tape := range disk.Tapes {
			holdOK(t, d.Append(tape, []byte("abcd")))
			if tape < n {
				want[tape] = "abcd"[:4-tape]
			}
		}
		for i := range n {
			keeps = append(keeps, 4-i)
		}
		d.Crash(keeps)
		for tape := range disk.Tapes {
			holdTape(t, "by its place", d, tape, want[tape], len(want[tape]))
		}
	}
}

// TestClearedFirst: what comes back is what was safe when the tape was cleared first since its last Flush, and no more.
func TestClearedFirst(t *testing.T) {
	d := disk.New(9)
	holdOK(t, d.Append(0, []byte("ab")), d.Flush(0), d.Append(0, []byte("cd")), d.Clear(0), d.Append(0, []byte("x")), d.Clear(0), d.Append(0, []byte("y")), d.Clear(0))
	d.Crash([]int{-1})
	holdTape(t, "cleared thrice", d, 0, "ab", 2)
	holdOK(t, d.Clear(0), d.Flush(0))
	d.Crash([]int{-1})
	holdTape(t, "flushed", d, 0, "", 0)
	holdOK(t, d.Append(0, []byte("old")), d.Flush(0), d.Clear(0), d.Append(0, []byte("new")), d.Flush(0), d.Append(0, []byte("er")))
	d.Crash([]int{-1})
	holdTape(t, "flushed since", d, 0, "new", 3)
	holdOK(t, d.Clear(0), d.Append(0, []byte("abc")))
	d.Crash([]int{2})
	d.Crash([]int{-1})
	holdTape(t, "what is left is safe, and that it was cleared", d, 0, "ab", 2)
	holdOK(t, d.Clear(0), d.Append(0, []byte("z")))
	d.Crash([]int{-1})
	holdOK(t, d.Append(0, []byte("c")))
	d.Crash([]int{-1})
	holdTape(t, "a clear that was taken back is none", d, 0, "ab", 2)
	d = disk.New(9)
	holdOK(t, d.Clear(0), d.Append(0, []byte("abc")))
	d.Crash([]int{-1})
	holdTape(t, "nothing was safe", d, 0, "", 0)
}

func TestCrashWithPower(t *testing.T) {
	d := disk.New(9)
	holdOK(t, d.Append(0, []byte("abc")))
	d.Crash([]int{2})
	d.Crash([]int{9})
	d.Crash(nil)
	holdTape(t, "safe ones stay", d, 0, "ab", 2)
	holdOK(t, d.Append(0, []byte("defghij")))
	if e := d.Append(0, []byte("k")); e != api.ErrFull {
		t.Error(e)
	}
	holdTape(t, "behind what was torn", d, 0, "abdefghij", 2)
}

// deed is something that happens to a tape between two times at which all of it is safe.
type deed struct {
	clear bool
	bytes []byte
}

// told is a tape by the chapter's words: what was safe, and what was done since.
type told struct {
	safe  []byte
	deeds []deed
}

func (x *told) cleared() bool {
	return slices.ContainsFunc(x.deeds, func(d deed) bool { return d.clear })
}

// bytes goes from the last clear on.
func (x *told) bytes() []byte {
	b := slices.Clone(x.safe)
	for _, d := range x.deeds {
		if d.clear {
			b = nil
		}
		b = append(b, d.bytes...)
	}
	return b
}

func (x *told) sure() int {
	if x.cleared() {
		return 0
	}
	return len(x.safe)
}

func (x *told) torn(keep int) []byte {
	if keep < 0 && x.cleared() {
		return x.safe
	}
	left := []byte{}
	for i, c := range x.bytes() {
		if i < x.sure() || i-x.sure() < keep {
			left = append(left, c)
		}
	}
	return left
}

// model is a disk by the chapter's words.
type model struct {
	room, acts, fuse int
	down             bool
	tapes            [disk.Tapes]told
}

// act is an Errno, and whether the act is done.
func (m *model) act() (api.Errno, bool) {
	if m.fuse > 0 {
		m.fuse--
		if m.fuse == 0 {
			m.down = true
			return api.ErrDown, false
		}
	}
	m.acts++
	return api.OK, true
}

func (m *model) put(tape int, d deed) api.Errno {
	if m.down {
		return api.ErrDown
	}
	if len(d.bytes)+len(m.tapes[tape].bytes()) > m.room {
		return api.ErrFull
	}
	m.tapes[tape].deeds = append(m.tapes[tape].deeds, d)
	e, _ := m.act()
	return e
}

func (m *model) clear(tape int) api.Errno {
	if m.down {
		return api.ErrDown
	}
	m.tapes[tape].deeds = append(m.tapes[tape].deeds, deed{clear: true})
	e, _ := m.act()
	return e
}

func (m *model) flush(tape int) api.Errno {
	if m.down {
		return api.ErrDown
	}
	e, done := m.act()
	if done {
		m.tapes[tape] = told{safe: m.tapes[tape].bytes()}
	}
	return e
}

func (m *model) crash(keeps []int) {
	for i := range m.tapes {
		keep := 0
		if i < len(keeps) {
			keep = keeps[i]
		}
		m.tapes[i] = told{safe: m.tapes[i].torn(keep)}
	}
	m.fuse, m.down = 0, false
}

// holdModel compares all that is told.
func holdModel(t *testing.T, d *disk.Disk, m *model) {
	t.Helper()
	if d.Acts() != m.acts || d.Down() != m.down {
		t.Fatalf("%d acts, down %t; want %d, %t", d.Acts(), d.Down(), m.acts, m.down)
	}
	for i := range m.tapes {
		b, e := d.Read(i)
		if m.down {
			if e != api.ErrDown || len(b) != 0 || d.Safe(i) != 0 {
				t.Fatalf("down: tape %d: %q, %d, %d", i, b, e, d.Safe(i))
			}
			continue
		}
		if e != api.OK || !bytes.Equal(b, m.tapes[i].bytes()) || d.Safe(i) != m.tapes[i].sure() {
			t.Fatalf("tape %d: %q, %d, %d safe; want %q, %d safe", i, b, e, d.Safe(i), m.tapes[i].bytes(), m.tapes[i].sure())
		}
	}
}

func drawnKeeps(r *rand.Rand) []int {
	keeps := make([]int, r.Intn(6))
	for i := range keeps {
		keeps[i] = r.Intn(9) - 3
	}
	return keeps
}

func TestDrawnCallsAgainstTheModel(t *testing.T) {
	r := rand.New(rand.NewSource(16))
	for range 3000 {
		m := &model{room: r.Intn(24)}
		d := disk.New(m.room)
		for i := range 40 {
			tape := r.Intn(disk.Tapes)
			if i%3 > 0 {
				tape = 0
			}
			got, want := api.OK, api.OK
			switch r.Intn(12) {
			case 0, 1:
				got, want = d.Clear(tape), m.clear(tape)
			case 2, 3:
				got, want = d.Flush(tape), m.flush(tape)
			case 4:
				n := r.Intn(8) - 2
				d.Fuse(n)
				if !m.down {
					m.fuse = max(n, 0)
				}
			case 5, 6:
				keeps := drawnKeeps(r)
				d.Crash(keeps)
				m.crash(keeps)
			default:
				b := make([]byte, r.Intn(7))
				r.Read(b)
				got, want = d.Append(tape, b), m.put(tape, deed{bytes: b})
			}
			if got != want {
				t.Fatalf("%d, want %d", got, want)
			}
			holdModel(t, d, m)
		}
	}
}

func TestWhatIsHandedInIsNotKept(t *testing.T) {
	d := disk.New(99)
	room := []byte("abcdef")
	holdOK(t, d.Append(0, room[:3]), d.Append(0, room[:1]))
	if string(room) != "abcdef" {
		t.Error("changed:", string(room))
	}
	copy(room, "xxxxxx")
	holdTape(t, "not kept", d, 0, "abca", 0)
	keeps := []int{2, 5, 7, -1, 8, 9}
	d.Crash(keeps[:4])
	if !slices.Equal(keeps, []int{2, 5, 7, -1, 8, 9}) {
		t.Error(keeps)
	}
}

func TestAnswersAreNew(t *testing.T) {
	d := disk.New(99)
	holdOK(t, d.Append(0, []byte("abc")), d.Flush(0), d.Append(0, []byte("def")))
	one, _ := d.Read(0)
	two, _ := d.Read(0)
	for _, b := range [][]byte{one, two} {
		b = b[:cap(b)]
		for i := range b {
			b[i] = 'x'
		}
	}
	holdTape(t, "what was read is the reader's", d, 0, "abcdef", 3)
	holdOK(t, d.Append(0, []byte("ghi")))
	again, _ := d.Read(0)
	d.Crash(nil)
	holdOK(t, d.Append(0, []byte("uvw")))
	if string(again) != "abcdefghi" {
		t.Error("an answer changed:", string(again))
	}
	holdTape(t, "behind a loss of power", d, 0, "abcuvw", 3)
}

func TestTwoDisksNeverMeet(t *testing.T) {
	a, b := disk.New(9), disk.New(9)
	holdOK(t, a.Append(0, []byte("abc")), a.Flush(0), b.Append(0, []byte("xyz")))
	a.Fuse(1)
	if e := a.Clear(0); e != api.ErrDown || b.Down() || b.Acts() != 1 {
		t.Error(e, b.Down(), b.Acts())
	}
	holdTape(t, "the other one", b, 0, "xyz", 0)
	b.Crash(nil)
	if !a.Down() {
		t.Error("the power of one came back with the other one's")
	}
	a.Crash([]int{-1})
	holdTape(t, "the one", a, 0, "abc", 3)
	holdTape(t, "the other one", b, 0, "", 0)
}
