package wal_test

import (
	"bytes"
	"encoding/binary"
	"hash/crc32"
	"math/rand"
	"slices"
	"strings"
	"testing"

	"crucible/api"
	"crucible/disk"
	"crucible/wal"
)

// model is a log by the chapter's words, on a disk of its own.
type model struct {
	d     *disk.Disk
	turn  int
	state string
	notes []string
	dead  bool
}

// sum is four bytes of a sum.
func sum(parts ...[]byte) []byte {
	return binary.BigEndian.AppendUint32(nil, crc32.Checksum(slices.Concat(parts...), castagnoli))
}

// cutFrame takes a whole frame off the front.
func cutFrame(b []byte) (kind int, data, rest []byte, ok bool) {
	if len(b) < 12 || !bytes.Equal(b[4:8], sum(b[:4])) {
		return 0, nil, nil, false
	}
	n := int(b[1])<<16 + int(b[2])<<8 + int(b[3])
	if n > api.MaxBytes || len(b) < 12+n || !bytes.Equal(b[8:12], sum(b[:8], b[12:12+n])) {
		return 0, nil, nil, false
	}
	return int(b[0]), b[12 : 12+n], b[12+n:], true
}

// cutNum takes a Num off the front of bits as text.
func cutNum(text string) (uint64, string, bool) {
	n := strings.IndexByte(text, '1')
	if n < 0 || n > 63 || len(text) < 2*n+1 {
		return 0, "", false
	}
	x := uint64(0)
	for _, c := range text[n : 2*n+1] {
		x = 2*x + uint64(c-'0')
	}
	return x - 1, text[2*n+1:], true
}

// spelt is bytes as bits.
func spelt(b []byte) string {
	text := ""
	for _, c := range b {
		for i := 7; i >= 0; i-- {
			text += string(rune('0' + c>>i&1))
		}
	}
	return text
}

// look is the log of a tape; clean: nothing stands behind it.
func look(b []byte, tape int) (m model, ok, clean bool) {
	kind, data, b, ok := cutFrame(b)
	if !ok || kind != 1 || len(data) == 0 || len(data) < 1+int(data[0]) {
		return model{}, false, false
	}
	turn, text, ok := cutNum(spelt(data[1 : 1+int(data[0])]))
	laid, text, fine := cutNum(text)
	if !ok || !fine || len(text) > 7 || strings.Contains(text, "1") || turn < 1 || turn > api.MaxTime || int(turn)%2 != tape {
		return model{}, false, false
	}
	m = model{turn: int(turn), state: string(data[1+int(data[0]):])}
	for {
		_, data, rest, ok := cutFrame(b)
		if !ok {
			break
		}
		m.notes, b = append(m.notes, string(data)), rest
	}
	return m, laid <= uint64(len(m.notes)), len(b) == 0
}

func modelOpen(d *disk.Disk) (*model, api.Errno) {
	best, fine := model{}, false
	for tape := range 2 {
		b, e := d.Read(tape)
		if e != api.OK {
			return nil, e
		}
		if m, ok, clean := look(b, tape); ok && m.turn > best.turn {
			best, fine = m, clean
		}
	}
	best.d = d
	if !fine {
		if e := best.lay(best.state, best.notes); e != api.OK {
			return nil, e
		}
	}
	return &best, api.OK
}

func (m *model) lay(state string, notes []string) api.Errno {
	b := head(uint64(m.turn+1), uint64(len(notes)), state)
	for _, n := range notes {
		b = append(b, note(n)...)
	}
	tape := (m.turn + 1) % 2
	e := m.d.Clear(tape)
	if e == api.OK {
		e = m.d.Append(tape, b)
	}
	if e == api.OK {
		e = m.d.Flush(tape)
	}
	if e == api.OK {
		m.turn, m.state, m.notes = m.turn+1, state, notes
	}
	m.dead = e == api.ErrDown
	return e
}

func (m *model) append(n string) api.Errno {
	if m.dead {
		return api.ErrDown
	}
	if len(n) > api.MaxBytes {
		return api.ErrLong
	}
	e := m.d.Append(m.turn%2, note(n))
	if e == api.OK {
		m.notes = append(m.notes, n)
	}
	m.dead = e == api.ErrDown
	return e
}

func (m *model) sync() api.Errno {
	if m.dead {
		return api.ErrDown
	}
	e := m.d.Flush(m.turn % 2)
	m.dead = e == api.ErrDown
	return e
}

func (m *model) check(state string) api.Errno {
	if m.dead {
		return api.ErrDown
	}
	if len(state) > api.MaxBytes-20 {
		return api.ErrLong
	}
	return m.lay(state, nil)
}

// holdDisks compares all that two disks tell.
func holdDisks(t *testing.T, got, want *disk.Disk) {
	t.Helper()
	if got.Acts() != want.Acts() || got.Down() != want.Down() {
		t.Fatalf("%d acts, down %t; want %d, %t", got.Acts(), got.Down(), want.Acts(), want.Down())
	}
	for tape := range disk.Tapes {
		b, e := got.Read(tape)
		c, f := want.Read(tape)
		if e != f || !bytes.Equal(b, c) || got.Safe(tape) != want.Safe(tape) {
			t.Fatalf("tape %d: %v, %d, %d safe; want %v, %d, %d safe", tape, b, e, got.Safe(tape), c, f, want.Safe(tape))
		}
	}
}

// holdModel compares a log with the model; both may be nil.
func holdModel(t *testing.T, l *wal.Log, m *model) {
	t.Helper()
	if l == nil && m == nil {
		return
	}
	holdLog(t, "against the model", l, m.turn, m.state, m.notes...)
	if l.Dead() != m.dead || t.Failed() {
		t.Fatal("dead:", l.Dead(), m.dead)
	}
}

func drawn(r *rand.Rand, most int) string {
	b := make([]byte, r.Intn(most))
	r.Read(b)
	return string(b)
}

// drawnKeep is some bytes, all, or below nought.
func drawnKeep(r *rand.Rand) int {
	if r.Intn(3) == 0 {
		return -1
	}
	return r.Intn(90)
}

func TestDrawnCallsAgainstTheModel(t *testing.T) {
	r := rand.New(rand.NewSource(17))
	for range 2500 {
		room := 20 + r.Intn(300)
		d, d2 := disk.New(room), disk.New(room)
		var l *wal.Log
		var m *model
		for range 40 {
			got, want := api.OK, api.OK
			k := r.Intn(20)
			switch {
			case l == nil || k < 2:
				l, got = wal.Open(d)
				m, want = modelOpen(d2)
			case k < 4:
				n := r.Intn(6)
				d.Fuse(n)
				d2.Fuse(n)
			case k < 8 && (d.Down() || k < 5):
				keeps := []int{drawnKeep(r), drawnKeep(r)}
				d.Crash(keeps)
				d2.Crash(keeps)
				l, m = nil, nil
			case k < 8:
				got, want = l.Sync(), m.sync()
			case k < 10:
				state := drawn(r, 30)
				got, want = l.Check([]byte(state)), m.check(state)
			default:
				n := drawn(r, 20)
				got, want = l.Append([]byte(n)), m.append(n)
			}
			if got != want {
				t.Fatalf("%d, want %d", got, want)
			}
			holdDisks(t, d, d2)
			holdModel(t, l, m)
		}
	}
}

// hopes is what may be told behind a loss of power.
type hopes struct {
	state  string
	notes  []string
	synced int
	// next is the state of a Check under way.
	next    string
	checked bool
}

func (h *hopes) allow(state string, notes []string) bool {
	if h.checked && state == h.next && len(notes) == 0 {
		return true
	}
	return state == h.state && len(notes) >= h.synced && len(notes) <= len(h.notes) && slices.Equal(notes, h.notes[:len(notes)])
}

// do does a call of a log, and tells whether it was answered OK.
func (h *hopes) do(l *wal.Log, call rune, name string) bool {
	switch call {
	case 'a':
		// One that is under way may be there.
		h.notes = append(h.notes, name)
		e := l.Append([]byte(name))
		if e == api.ErrFull {
			h.notes = h.notes[:len(h.notes)-1]
		}
		return e == api.OK
	case 's':
		if l.Sync() != api.OK {
			return false
		}
		h.synced = len(h.notes)
	case 'c':
		h.next, h.checked = name, true
		e := l.Check([]byte(name))
		if e != api.OK {
			h.checked = e == api.ErrDown
			return false
		}
		*h = hopes{state: name}
	}
	return true
}

// holdOpen opens a log behind a loss of power, and takes for sure what it tells.
func (h *hopes) holdOpen(t *testing.T, name string, d *disk.Disk) *wal.Log {
	t.Helper()
	l := opened(t, d)
	s, ns := l.State()
	notes := []string{}
	for _, n := range ns {
		notes = append(notes, string(n))
	}
	if !h.allow(string(s), notes) {
		t.Fatalf("%s: %q, %q; allowed: %+v", name, s, notes, *h)
	}
	*h = hopes{state: string(s), notes: notes, synced: len(notes)}
	return l
}

// words is all words of so many letters.
func words(letters string, n int) []string {
	if n == 0 {
		return []string{""}
	}
	var all []string
	for _, w := range words(letters, n-1) {
		for _, c := range letters {
			all = append(all, w+string(c))
		}
	}
	return all
}

// TestPowerAtEachAct: all rows of calls, the power fails in each act of them, and again in each act of the Open behind it.
func TestPowerAtEachAct(t *testing.T) {
	keeps := []int{-1, 0, 3, 12, 14, 20, 99}
	for _, row := range words("asc", 4) {
		for fuse := 1; fuse <= 10; fuse++ {
			for i, keep := range keeps {
				for _, other := range []int{keep, keeps[(i+3)%len(keeps)]} {
					for again := range 4 {
						power(t, row, fuse, []int{keep, other}, again)
					}
				}
			}
		}
	}
}

// power does a row of calls till the power fails, or is taken at the end.
func power(t *testing.T, row string, fuse int, keeps []int, again int) {
	t.Helper()
	d := disk.New(1000)
	h := &hopes{}
	l := opened(t, d)
	d.Fuse(fuse)
	for i, call := range row {
		if !h.do(l, call, string(call)+string(rune('0'+i))) {
			break
		}
	}
	d.Crash(keeps)
	d.Fuse(again)
	if _, e := wal.Open(d); e == api.ErrDown {
		d.Crash([]int{keeps[1], keeps[0]})
	}
	d.Fuse(0)
	h.holdOpen(t, row, d)
}

// TestPowerAgainAndAgain: a log lives on through drawn losses of power, with little room or much.
func TestPowerAgainAndAgain(t *testing.T) {
	r := rand.New(rand.NewSource(173))
	for range 1500 {
		d := disk.New([]int{90, 150, 1 << 20}[r.Intn(3)])
		h := &hopes{}
		for life := range 12 {
			for e := api.ErrDown; e == api.ErrDown; {
				d.Fuse(r.Intn(5))
				if _, e = wal.Open(d); e == api.ErrDown {
					d.Crash([]int{drawnKeep(r), drawnKeep(r)})
				}
			}
			d.Fuse(0)
			if _, e := wal.Open(d); e == api.ErrFull {
				break
			}
			l := h.holdOpen(t, "again", d)
			d.Fuse(r.Intn(12))
			for i := range r.Intn(12) {
				call := rune("aaassc"[r.Intn(6)])
				if !h.do(l, call, string(call)+string(rune('a'+life))+string(rune('a'+i))) && l.Dead() {
					break
				}
			}
			d.Crash([]int{drawnKeep(r), drawnKeep(r)})
		}
	}
}
