package script_test

import (
	"bytes"
	"math"
	"math/rand"
	"reflect"
	"slices"
	"testing"

	"crucible/api"
	"crucible/bits"
	"crucible/draw"
	"crucible/script"
)

// small is a setup whose numbers are the least ones.
func small() script.Conf {
	return script.Conf{Nodes: 1, Shards: 1, Clients: 1, Level: api.Snapshot, Patience: 1, Plan: draw.Plan{Keys: 1, Most: 1, Reads: 1}}
}

// good is a setup whose numbers all differ.
func good() script.Conf {
	return script.Conf{Nodes: 7, Shards: 3, Clients: 4, Level: api.Serial, Txns: 6, Patience: 900, Room: 1 << 21, Stamps: 1 << 29, Bugs: script.NoReads | script.Forget,
		Seed: 0xfedcba9876543210, Plan: draw.Plan{Keys: 16, Most: 12, Reads: 8, Writes: 9, Both: 10, Scans: 11}}
}

// setup is the bits of a setup by the chapter's words, be it right or not.
func setup(c script.Conf) *bits.Writer {
	w := &bits.Writer{}
	p := c.Plan
	for _, x := range []int{c.Nodes, c.Shards, c.Clients, c.Level, c.Txns, c.Patience, c.Room, c.Stamps, c.Bugs, p.Keys, p.Most, p.Reads, p.Writes, p.Both, p.Scans} {
		w.Num(uint64(x))
	}
	w.Put(c.Seed, 64)
	return w
}

// form is the bits of a setup and of steps, be there too many or not.
func form(c script.Conf, steps ...script.Step) *bits.Writer {
	w := setup(c)
	w.Num(uint64(len(steps)))
	for _, s := range steps {
		w.Int(s.K)
		w.Int(s.N)
		w.Int(s.I)
		w.Num(uint64(len(s.Keeps)))
		for _, keep := range s.Keeps {
			w.Int(keep)
		}
	}
	return w
}

// sameStep: an empty list is as good as none.
func sameStep(a, b script.Step) bool {
	return a.K == b.K && a.N == b.N && a.I == b.I && slices.Equal(a.Keeps, b.Keeps)
}

func holdScript(t *testing.T, c script.Conf, steps ...script.Step) {
	t.Helper()
	want := form(c, steps...).Bytes()
	b, e := script.Encode(c, steps)
	if e != api.OK || !bytes.Equal(b, want) {
		t.Fatalf("Encode(%v, %v): %v, %d, want %v", c, steps, b, e, want)
	}
	back, again, e := script.Decode(b)
	if e != api.OK || back != c || !slices.EqualFunc(again, steps, sameStep) {
		t.Fatalf("Decode of %v, %v: %v, %v, %d", c, steps, back, again, e)
	}
}

// holdRefused encodes what has an error.
func holdRefused(t *testing.T, c script.Conf, steps []script.Step, want api.Errno) {
	t.Helper()
	if b, e := script.Encode(c, steps); e != want || len(b) != 0 {
		t.Errorf("Encode(%v, %d steps): %d bytes, %d, want %d", c, len(steps), len(b), e, want)
	}
}

// holdError decodes bytes that have an error.
func holdError(t *testing.T, b []byte, want api.Errno) {
	t.Helper()
	if c, steps, e := script.Decode(b); e != want || c != (script.Conf{}) || len(steps) != 0 {
		t.Errorf("Decode(%v): %v, %v, %d, want %d", b, c, steps, e, want)
	}
}

// holdSetup asks for a setup's error, and that it is met by whoever is given that setup.
func holdSetup(t *testing.T, c script.Conf, want api.Errno) {
	t.Helper()
	if e := c.Check(); e != want {
		t.Errorf("%v: Check: %d, want %d", c, e, want)
	}
	if want == api.OK {
		holdScript(t, c)
		return
	}
	holdRefused(t, c, nil, want)
	holdRefused(t, c, make([]script.Step, script.Most), want)
	holdError(t, form(c).Bytes(), want)
}

func TestConstants(t *testing.T) {
	for i, bug := range []int{script.NoFirst, script.PastLocks, script.NoReads, script.Early, script.NoFlush, script.Forget} {
		if bug != 1<<i {
			t.Errorf("bug %d: %d", i, bug)
		}
	}
	if script.AllBugs != 63 || script.Most != 20000 {
		t.Error(script.AllBugs, script.Most)
	}
	for i, k := range []int{script.Tick, script.Go, script.Take, script.Drop, script.Twice, script.Cut, script.Heal, script.Crash, script.Start, script.Fuse} {
		if k != i+1 {
			t.Errorf("kind %d: %d", i+1, k)
		}
	}
}

func TestTheDocumentsExample(t *testing.T) {
	for _, seed := range []uint64{0, 1, 0xfedcba9876543210, math.MaxUint64} {
		c := small()
		c.Seed = seed
		// Its numbers have 31 bits: with the seed's and the 1 there are just 12 bytes.
		b, e := script.Encode(c, nil)
		if e != api.OK || len(b) != 12 {
			t.Fatal(b, e)
		}
		r := bits.Read(b)
		r.Get(31)
		if r.Get(64) != seed || r.Get(64) != 0 || b[11]&1 != 1 {
			t.Error(seed, b)
		}
	}
}

func TestBytesByHand(t *testing.T) {
	c := small()
	c.Seed = 1<<63 | 1
	// 010 010 010 010 1 010 1 1 1; 010 010 010 1 1 1; the seed; 1
	want := []byte{0b01001001, 0b00101010, 0b11101001, 0b00101111, 0, 0, 0, 0, 0, 0, 0, 0b00000011}
	if b, e := script.Encode(c, nil); e != api.OK || !bytes.Equal(b, want) {
		t.Errorf("%08b, %d", b, e)
	}
	c.Seed = 0
	steps := []script.Step{{K: script.Tick, N: -1, I: 2, Keeps: []int{0, -2}}}
	// Behind the seed: 010; 011 010 00101; 011 1 00100
	want = []byte{0b01001001, 0b00101010, 0b11101001, 0b00101110, 0, 0, 0, 0, 0, 0, 0, 0, 0b10011010, 0b00101011, 0b10010000}
	if b, e := script.Encode(c, steps); e != api.OK || !bytes.Equal(b, want) {
		t.Errorf("%08b, %d", b, e)
	}
	holdScript(t, c, steps...)
	// Each number has a place of its own.
	holdScript(t, good(), steps...)
}

func TestBoundsOfSetups(t *testing.T) {
	for _, edge := range []struct {
		name        string
		part        func(*script.Conf) *int
		least, most int
	}{
		{"Nodes", func(c *script.Conf) *int { return &c.Nodes }, 1, 7},
		{"Shards", func(c *script.Conf) *int { return &c.Shards }, 1, 4},
		{"Clients", func(c *script.Conf) *int { return &c.Clients }, 1, 16},
		{"Level", func(c *script.Conf) *int { return &c.Level }, 1, 2},
		{"Txns", func(c *script.Conf) *int { return &c.Txns }, 0, 100},
		{"Patience", func(c *script.Conf) *int { return &c.Patience }, 1, 1000},
		{"Room", func(c *script.Conf) *int { return &c.Room }, 0, 1 << 22},
		{"Stamps", func(c *script.Conf) *int { return &c.Stamps }, 0, 1 << 30},
		{"Bugs", func(c *script.Conf) *int { return &c.Bugs }, 0, 63},
		{"Keys", func(c *script.Conf) *int { return &c.Plan.Keys }, 1, 16},
		{"Most", func(c *script.Conf) *int { return &c.Plan.Most }, 1, 12},
		{"Reads", func(c *script.Conf) *int { return &c.Plan.Reads }, 0, 1000},
		{"Writes", func(c *script.Conf) *int { return &c.Plan.Writes }, 0, 1000},
		{"Both", func(c *script.Conf) *int { return &c.Plan.Both }, 0, 1000},
		{"Scans", func(c *script.Conf) *int { return &c.Plan.Scans }, 0, 1000},
	} {
		for _, x := range []int{math.MinInt, math.MinInt + 1, -1 << 32, -2, -1, 0, 1, 2, 3, edge.most / 2, edge.most - 1, edge.most, edge.most + 1, 2 * edge.most, 1<<32 + 1, math.MaxInt} {
			c := good()
			// So few that neither of the two makes too many events by itself.
			c.Clients, c.Txns = 1, 1
			*edge.part(&c) = x
			want := api.OK
			if x < edge.least || x > edge.most {
				want = api.ErrArg
			}
			holdSetup(t, c, want)
		}
	}
	c := good()
	c.Plan.Reads, c.Plan.Writes, c.Plan.Both, c.Plan.Scans = 0, 0, 0, 0
	holdSetup(t, c, api.ErrArg)
	holdSetup(t, script.Conf{}, api.ErrArg)
}

func TestEventsOfSetups(t *testing.T) {
	many := 0
	for clients := -1; clients <= 18; clients++ {
		for txns := -1; txns <= 103; txns++ {
			c := good()
			c.Clients, c.Txns = clients, txns
			want := api.OK
			switch {
			case clients < 1 || clients > 16 || txns < 0 || txns > 100:
				want = api.ErrArg
			case clients*txns > 200:
				want = api.ErrMany
				many++
			}
			if e := c.Check(); e != want {
				t.Errorf("%d clients of %d transactions: %d, want %d", clients, txns, e, want)
			}
		}
	}
	if many < 500 {
		t.Error("too few:", many)
	}
	for _, x := range []struct {
		clients, txns int
		want          api.Errno
	}{{2, 100, api.OK}, {16, 12, api.OK}, {16, 13, api.ErrMany}, {3, 67, api.ErrMany}, {3, 66, api.OK}, {8, 25, api.OK}, {16, 100, api.ErrMany}, {1 << 62, 8, api.ErrArg}, {8, 1 << 62, api.ErrArg}} {
		c := good()
		c.Clients, c.Txns = x.clients, x.txns
		holdSetup(t, c, x.want)
	}
}

// TestOrderOfErrors has too many events, or steps, and something else.
func TestOrderOfErrors(t *testing.T) {
	for _, spoil := range []func(*script.Conf){
		func(c *script.Conf) { c.Plan.Keys = 17 },
		func(c *script.Conf) { c.Plan.Scans = -1 },
		func(c *script.Conf) { c.Nodes = 0 },
		func(c *script.Conf) { c.Patience = 0 },
		func(c *script.Conf) { c.Bugs = 64 },
		func(c *script.Conf) { c.Stamps = -1 },
	} {
		c := good()
		spoil(&c)
		holdRefused(t, c, make([]script.Step, script.Most+1), api.ErrArg)
		c.Clients, c.Txns = 16, 100
		holdSetup(t, c, api.ErrArg)
		holdRefused(t, c, make([]script.Step, script.Most+1), api.ErrArg)
	}
}

func TestEdgesOfSteps(t *testing.T) {
	xs := []int{0, 1, -1, 2, -2, script.Fuse, script.Fuse + 1, 1 << 40, -1 << 40, math.MaxInt, math.MaxInt - 1, math.MinInt, math.MinInt + 1}
	for _, x := range xs {
		holdScript(t, good(), script.Step{K: x})
		holdScript(t, good(), script.Step{N: x})
		holdScript(t, good(), script.Step{I: x})
		holdScript(t, small(), script.Step{Keeps: []int{x}})
		holdScript(t, small(), script.Step{K: 1, N: 2, I: 3, Keeps: []int{7, x, -7}}, script.Step{Keeps: xs}, script.Step{K: x, N: x, I: x})
	}
	for _, n := range []int{0, 1, 2, 6, 7, 255, 256, 5000, 100000} {
		holdScript(t, good(), script.Step{K: script.Crash, Keeps: make([]int, n)}, script.Step{K: script.Start, Keeps: []int{}})
	}
}

func TestHowManySteps(t *testing.T) {
	steps := make([]script.Step, script.Most+3)
	for i := range steps {
		steps[i] = script.Step{K: i%12 - 1, N: i, I: -i, Keeps: make([]int, i%3)}
	}
	for _, n := range []int{0, 1, 2, 3, 100, script.Most - 1, script.Most} {
		holdScript(t, good(), steps[:n]...)
	}
	for _, n := range []int{script.Most + 1, script.Most + 2} {
		holdRefused(t, good(), steps[:n], api.ErrMany)
		holdError(t, form(good(), steps[:n]...).Bytes(), api.ErrMany)
	}
	// Right behind their number: whether anything stands behind it is nothing to it.
	for _, n := range []uint64{script.Most + 1, 1 << 20, 1<<32 + 1, 1 << 63, math.MaxUint64} {
		w := setup(good())
		w.Num(n)
		holdError(t, w.Bytes(), api.ErrMany)
		w.Put(0, 64)
		w.Put(0, 64)
		holdError(t, w.Bytes(), api.ErrMany)
	}
	w := setup(good())
	w.Num(script.Most)
	holdError(t, w.Bytes(), api.ErrShort)
}

// TestSetupIsCheckedRightBehindTheSeed cuts the bytes of wrong setups at each place.
func TestSetupIsCheckedRightBehindTheSeed(t *testing.T) {
	many, first, plan := good(), good(), good()
	many.Clients, many.Txns = 16, 100
	first.Nodes = 9
	plan.Plan.Keys = 0
	for _, x := range []struct {
		c    script.Conf
		want api.Errno
	}{{many, api.ErrMany}, {first, api.ErrArg}, {plan, api.ErrArg}} {
		all := form(x.c, script.Step{K: 1, N: 2, I: 3, Keeps: []int{4}}).Bytes()
		for n := range len(all) + 1 {
			want := x.want
			if 8*n < setup(x.c).Len() {
				want = api.ErrShort
			}
			holdError(t, all[:n], want)
		}
		w := setup(x.c)
		w.Num(math.MaxUint64)
		holdError(t, w.Bytes(), x.want)
		w = setup(x.c)
		w.Put(0, 64)
		w.Put(0, 64)
		holdError(t, w.Bytes(), x.want)
	}
	// A number ahead of the seed that can't be taken comes first.
	w := &bits.Writer{}
	w.Num(9)
	w.Put(0, 64)
	w.Put(0, 64)
	holdError(t, w.Bytes(), api.ErrForm)
}

// heads is the bits of a script up to each of its numbers, but the seed.
func heads() []*bits.Writer {
	var all []*bits.Writer
	for n := range 15 {
		w := &bits.Writer{}
		for range n {
			w.Num(1)
		}
		all = append(all, w)
	}
	w := setup(good())
	all = append(all, w)
	for n := range 6 {
		w := setup(good())
		w.Num(2)
		// K, N, I, how many Keeps, the first, the second.
		for _, x := range []uint64{5, 5, 5, 2, 5}[:n] {
			w.Num(x)
		}
		all = append(all, w)
	}
	return all
}

// TestTheReadersErrors stops the reader at each number: by one that is none, and by the end.
func TestTheReadersErrors(t *testing.T) {
	for _, b := range [][]byte{nil, {}, {0}, {0, 0}, {255}, {255, 255}} {
		holdError(t, b, api.ErrShort)
	}
	for i := range heads() {
		holdError(t, heads()[i].Bytes(), api.ErrShort)
		w := heads()[i]
		w.Put(0, 57)
		holdError(t, w.Bytes(), api.ErrShort)
		w = heads()[i]
		w.Put(0, 64)
		w.Put(1, 2)
		holdError(t, w.Bytes(), api.ErrForm)
		w = heads()[i]
		w.Put(0, 64)
		w.Put(1, 1)
		w.Put(1, 64)
		holdError(t, w.Bytes(), api.ErrForm)
	}
	all := form(good(), script.Step{K: 1, N: -2, I: 3, Keeps: []int{-4, 5, 6}}, script.Step{K: 7}).Bytes()
	for n := range all {
		holdError(t, all[:n], api.ErrShort)
	}
	// There are fewer Keeps than a number says, however great it is.
	for _, n := range []uint64{4, 1 << 20, 1 << 40, 1 << 63, math.MaxUint64} {
		w := setup(good())
		for _, x := range []uint64{1, 2, 3, 4, n, 5, 6, 7} {
			w.Num(x)
		}
		holdError(t, w.Bytes(), api.ErrShort)
	}
}

func TestTrails(t *testing.T) {
	for i := range 40 {
		steps := []script.Step{{K: i, N: i * i, I: -1 << i}, {Keeps: make([]int, i)}}[:i%3]
		room := (8 - form(good(), steps...).Len()%8) % 8
		for n := range room {
			w := form(good(), steps...)
			w.Put(1, n+1)
			holdError(t, w.Bytes(), api.ErrTrail)
		}
		for _, more := range [][]byte{{0}, {1}, {255}, make([]byte, 100)} {
			holdError(t, append(form(good(), steps...).Bytes(), more...), api.ErrTrail)
		}
	}
}

// model is what the chapter's words say of bytes; of a setup's error it asks Check.
func model(b []byte) (script.Conf, []script.Step, api.Errno) {
	r := bits.Read(b)
	var xs [15]int
	for i := range xs {
		xs[i] = int(r.Num())
	}
	c := script.Conf{Nodes: xs[0], Shards: xs[1], Clients: xs[2], Level: xs[3], Txns: xs[4], Patience: xs[5], Room: xs[6], Stamps: xs[7], Bugs: xs[8], Seed: r.Get(64),
		Plan: draw.Plan{Keys: xs[9], Most: xs[10], Reads: xs[11], Writes: xs[12], Both: xs[13], Scans: xs[14]}}
	if r.Err() != api.OK {
		return script.Conf{}, nil, r.Err()
	}
	if e := c.Check(); e != api.OK {
		return script.Conf{}, nil, e
	}
	n := r.Num()
	if n > 20000 {
		return script.Conf{}, nil, api.ErrMany
	}
	var steps []script.Step
	for range n {
		s := script.Step{K: r.Int(), N: r.Int(), I: r.Int()}
		for left := r.Num(); left > 0 && r.Err() == api.OK; left-- {
			s.Keeps = append(s.Keeps, r.Int())
		}
		steps = append(steps, s)
	}
	if r.End() != api.OK {
		return script.Conf{}, nil, r.End()
	}
	return c, steps, api.OK
}

// anyScript is a setup that is right and some steps.
func anyScript(source *rand.Rand) (script.Conf, []script.Step) {
	x := func() int { return int(source.Uint64()>>source.Intn(64)) * (source.Intn(2)*2 - 1) }
	clients := 1 + source.Intn(16)
	c := script.Conf{Nodes: 1 + source.Intn(7), Shards: 1 + source.Intn(4), Clients: clients, Level: 1 + source.Intn(2), Txns: source.Intn(min(100, 200/clients) + 1),
		Patience: 1 + source.Intn(1000), Room: source.Intn(1<<22 + 1), Stamps: source.Intn(1<<30 + 1), Bugs: source.Intn(64), Seed: source.Uint64(),
		Plan: draw.Plan{Keys: 1 + source.Intn(16), Most: 1 + source.Intn(12), Reads: source.Intn(1001), Writes: source.Intn(1001), Both: source.Intn(1001), Scans: 1 + source.Intn(1000)}}
	steps := make([]script.Step, source.Intn(5))
	for i := range steps {
		steps[i] = script.Step{K: 1 + source.Intn(10), N: x(), I: x()}
		for range source.Intn(5) {
			steps[i].Keeps = append(steps[i].Keeps, x())
		}
	}
	return c, steps
}

// TestAnyBytes decodes scripts' bytes, such with some bits turned, cut or lengthened, and bytes of anything; what is decoded is encoded as the same bytes.
func TestAnyBytes(t *testing.T) {
	source := rand.New(rand.NewSource(21))
	count := map[api.Errno]int{}
	for range 20000 {
		c, steps := anyScript(source)
		holdScript(t, c, steps...)
		b, _ := script.Encode(c, steps)
		switch source.Intn(7) {
		case 0:
			b = b[:source.Intn(len(b)+1)]
		case 1:
			b = append(b, byte(source.Intn(2)*source.Intn(256)))
		case 2:
			b = make([]byte, source.Intn(40))
			source.Read(b)
		case 3:
			from := source.Intn(len(b))
			clear(b[from:min(from+10, len(b))])
		default:
			for range 1 + source.Intn(2) {
				b[source.Intn(len(b))] ^= 1 << source.Intn(8)
			}
		}
		got, again, e := script.Decode(b)
		want, same, wrong := model(b)
		if e != wrong || got != want || !slices.EqualFunc(again, same, sameStep) {
			t.Fatalf("Decode(%v): %v, %v, %d, want %v, %v, %d", b, got, again, e, want, same, wrong)
		}
		if e == api.OK {
			if back, e := script.Encode(got, again); e != api.OK || !bytes.Equal(back, b) {
				t.Fatalf("Encode of Decode(%v): %v, %d", b, back, e)
			}
		}
		count[e]++
	}
	for _, e := range []api.Errno{api.OK, api.ErrShort, api.ErrForm, api.ErrTrail, api.ErrArg, api.ErrMany} {
		if count[e] < 20 {
			t.Error("too few:", count)
		}
	}
}

// roomy is steps with room behind each list, in which something stands.
func roomy(steps []script.Step) []script.Step {
	more := append(slices.Clone(steps), script.Step{K: -77})[:len(steps)]
	for i := range more {
		more[i].Keeps = append(slices.Clone(steps[i].Keeps), -77)[:len(steps[i].Keeps)]
	}
	return more
}

func roomStands(steps []script.Step) bool {
	for _, s := range steps {
		if s.Keeps[:len(s.Keeps)+1][len(s.Keeps)] != -77 {
			return false
		}
	}
	return steps[:len(steps)+1][len(steps)].K == -77
}

func TestEncodeKeepsNothing(t *testing.T) {
	source := rand.New(rand.NewSource(22))
	for range 300 {
		c, steps := anyScript(source)
		given := roomy(steps)
		b, _ := script.Encode(c, given)
		if !slices.EqualFunc(given, steps, sameStep) || !roomStands(given) {
			t.Fatal("Encode changes what it is given:", steps)
		}
		had := slices.Clone(b)
		for _, s := range given {
			clear(s.Keeps)
		}
		clear(given)
		if !bytes.Equal(b, had) {
			t.Fatal("Encode's answer hangs on what it was given:", steps)
		}
		clear(b[:cap(b)])
		if again, _ := script.Encode(c, steps); !bytes.Equal(again, had) {
			t.Fatal("two answers share memory:", steps)
		}
	}
}

func TestDecodeAnswersNewMemory(t *testing.T) {
	source := rand.New(rand.NewSource(23))
	for range 300 {
		c, steps := anyScript(source)
		had, _ := script.Encode(c, steps)
		given := append(slices.Clone(had), 77)[:len(had)]
		_, back, _ := script.Decode(given)
		_, other, _ := script.Decode(given)
		if !bytes.Equal(given, had) || given[:len(had)+1][len(had)] != 77 {
			t.Fatal("Decode changes what it is given:", given)
		}
		clear(given)
		for i, s := range back {
			if !sameStep(s, steps[i]) {
				t.Fatal("Decode's answer hangs on what it was given, or its lists share memory:", steps)
			}
			// The list is overwritten, its room too: those behind it must not see it.
			clear(s.Keeps[:cap(s.Keeps)])
		}
		clear(back[:cap(back)])
		if !slices.EqualFunc(other, steps, sameStep) {
			t.Fatal("two answers share memory:", steps)
		}
		// And now the other way round.
		for i, s := range slices.Backward(other) {
			if !sameStep(s, steps[i]) {
				t.Fatal("two lists of one answer share memory:", steps)
			}
			clear(s.Keeps[:cap(s.Keeps)])
		}
	}
}

// TestOneQuestionOneAnswer asks with other questions in between.
func TestOneQuestionOneAnswer(t *testing.T) {
	source := rand.New(rand.NewSource(24))
	var had [][]byte
	for range 50 {
		b, _ := script.Encode(anyScript(source))
		had = append(had, b)
	}
	for _, b := range had {
		c, steps, e := script.Decode(b)
		script.Decode(b[:len(b)/2])
		script.Encode(script.Conf{}, steps)
		c2, steps2, e2 := script.Decode(b)
		if e != api.OK || e2 != api.OK || c != c2 || !reflect.DeepEqual(steps, steps2) {
			t.Error("two answers to one question:", b)
		}
	}
}
