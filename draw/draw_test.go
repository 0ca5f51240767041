package draw

import (
	"math"
	"slices"
	"testing"

	"crucible/api"
	"crucible/hist"
	"crucible/mix"
)

func r(key int) api.Op      { return api.Op{Kind: api.Read, Key: key} }
func w(key, val int) api.Op { return api.Op{Kind: api.Write, Key: key, Val: val} }

// made is a generator of a plan that is right.
func made(t *testing.T, p Plan, client int, seed uint64) *Gen {
	t.Helper()
	g, e := New(p, client, seed)
	if g == nil || e != api.OK {
		t.Fatalf("New(%v, %d, %d): %v, %d", p, client, seed, g, e)
	}
	return g
}

func TestTheDocumentsExample(t *testing.T) {
	for seed := range uint64(20) {
		g := made(t, Plan{Keys: 1, Most: 1, Writes: 1}, 3, seed)
		for _, val := range []int{18, 34, 50} {
			if got := g.Next(); !slices.Equal(got, []api.Op{w(0, val)}) {
				t.Error(got)
			}
		}
	}
}

// TestDrawnOnes holds what was reckoned by other means.
func TestDrawnOnes(t *testing.T) {
	for _, x := range []struct {
		p      Plan
		client int
		seed   uint64
		want   [][]api.Op
	}{
		{Plan{4, 5, 1, 2, 3, 4}, 1, 99, [][]api.Op{{r(3), w(3, 16), r(0), w(0, 32)}, {r(0), r(1), r(2)}, {r(3), w(3, 48)}, {w(0, 64), r(1)}}},
		{Plan{16, 12, 10, 10, 10, 10}, 16, math.MaxUint64, [][]api.Op{
			{w(3, 31), w(5, 47), r(11), r(15), r(5), w(5, 63), r(6), w(6, 79), r(14)}, {r(12)}}},
		{Plan{Keys: 3, Most: 6, Scans: 7}, 2, 0, [][]api.Op{
			{r(2)}, {r(0), r(1), r(0), r(1)}, {r(0), r(1), r(0), r(1), r(1), r(2)}, {r(1), r(2), r(0), r(2), r(1)}}},
		{Plan{Keys: 2, Most: 3, Both: 1000}, 5, 12345, [][]api.Op{
			{r(1), w(1, 20), r(0)}, {r(0), w(0, 36), r(0)}, {r(0), w(0, 52)}, {r(0), w(0, 68), r(1)}, {r(1), w(1, 84), r(1)}}},
	} {
		g := made(t, x.p, x.client, x.seed)
		for i, want := range x.want {
			if got := g.Next(); !slices.Equal(got, want) {
				t.Errorf("%v, client %d, seed %d, transaction %d: %v, want %v", x.p, x.client, x.seed, i, got, want)
			}
		}
	}
}

// holdPlan asks for a plan's error, and for a generator of it.
func holdPlan(t *testing.T, p Plan, want api.Errno) {
	t.Helper()
	if e := p.Check(); e != want {
		t.Errorf("%v: Check: %d, want %d", p, e, want)
	}
	g, e := New(p, 1, 5)
	if e != want || (g == nil) != (want != api.OK) {
		t.Errorf("New(%v, 1, 5): %v, %d, want %d", p, g, e, want)
	}
}

func TestPlans(t *testing.T) {
	good := Plan{Keys: 4, Most: 5, Reads: 1, Writes: 2, Both: 3, Scans: 4}
	for _, edge := range []struct {
		part        func(*Plan) *int
		least, most int
	}{
		{func(p *Plan) *int { return &p.Keys }, 1, 16},
		{func(p *Plan) *int { return &p.Most }, 1, 12},
		{func(p *Plan) *int { return &p.Reads }, 0, 1000},
		{func(p *Plan) *int { return &p.Writes }, 0, 1000},
		{func(p *Plan) *int { return &p.Both }, 0, 1000},
		{func(p *Plan) *int { return &p.Scans }, 0, 1000},
	} {
		for _, x := range []int{math.MinInt, -1, 0, 1, 2, edge.most - 1, edge.most, edge.most + 1, 1 << 20, 1 << 32, math.MaxInt} {
			p := good
			*edge.part(&p) = x
			want := api.OK
			if x < edge.least || x > edge.most {
				want = api.ErrArg
			}
			holdPlan(t, p, want)
		}
	}
}

func TestWeightsOfPlans(t *testing.T) {
	for _, x := range []struct {
		p    Plan
		want api.Errno
	}{
		{Plan{}, api.ErrArg},
		{Plan{Keys: 1, Most: 1}, api.ErrArg},
		{Plan{Keys: 1, Most: 1, Reads: 1}, api.OK},
		{Plan{Keys: 1, Most: 1, Writes: 1}, api.OK},
		{Plan{Keys: 1, Most: 1, Both: 1}, api.OK},
		{Plan{Keys: 1, Most: 1, Scans: 1}, api.OK},
		{Plan{16, 12, 1000, 1000, 1000, 1000}, api.OK},
		// Their sum is 0, and yet not all of them are.
		{Plan{Keys: 1, Most: 1, Reads: -1, Writes: 1}, api.ErrArg},
		{Plan{Keys: 1, Most: 1, Reads: -1, Writes: 5}, api.ErrArg},
		{Plan{1, 1, math.MinInt, math.MinInt, 0, 0}, api.ErrArg},
		{Plan{1, 1, math.MaxInt, math.MaxInt, 2, 0}, api.ErrArg},
		{Plan{Reads: 1, Most: 1}, api.ErrArg},
		{Plan{Reads: 1, Keys: 1}, api.ErrArg},
	} {
		holdPlan(t, x.p, x.want)
	}
}

func TestClients(t *testing.T) {
	good := Plan{Keys: 4, Most: 5, Reads: 1}
	for _, client := range []int{math.MinInt, -1, 0, 1, 2, 15, 16, 17, 32, math.MaxInt} {
		want := api.OK
		if client < 1 || client > 16 {
			want = api.ErrArg
		}
		g, e := New(good, client, 7)
		if e != want || (g == nil) != (want != api.OK) {
			t.Errorf("client %d: %v, %d", client, g, e)
		}
		if g, e := New(Plan{}, client, 7); e != api.ErrArg || g != nil {
			t.Errorf("client %d, no plan: %v, %d", client, g, e)
		}
	}
}

// model makes transactions by the chapter's words.
type model struct {
	p      Plan
	client int
	draws  *mix.Source
	n      int
}

func (m *model) next() []api.Op {
	size := m.draws.Below(m.p.Most) + 1
	ops := []api.Op{}
	// add has room for no more than size.
	add := func(kind, key int) {
		if len(ops) == size {
			return
		}
		op := api.Op{Kind: kind, Key: key}
		if kind == api.Write {
			m.n++
			op.Val = 16*m.n + m.client - 1
		}
		ops = append(ops, op)
	}
	for len(ops) < size {
		key := m.draws.Below(m.p.Keys)
		kind := m.draws.Weigh([]int{m.p.Reads, m.p.Writes, m.p.Both, m.p.Scans})
		if kind == 0 || kind == 2 {
			add(api.Read, key)
		}
		if kind == 1 || kind == 2 {
			add(api.Write, key)
		}
		if kind == 3 {
			last := key + m.draws.Below(3)
			for k := key; k <= last && k < m.p.Keys; k++ {
				add(api.Read, k)
			}
		}
	}
	return ops
}

// plans is many that are right, at their edges too.
func plans() []Plan {
	var ps []Plan
	for _, keys := range []int{1, 2, 3, 5, 16} {
		for _, most := range []int{1, 2, 3, 4, 12} {
			for _, ws := range [][4]int{{1, 0, 0, 0}, {0, 1, 0, 0}, {0, 0, 1, 0}, {0, 0, 0, 1}, {1, 1, 1, 1}, {5, 3, 1, 0}, {0, 999, 1, 1000}, {1000, 1000, 1000, 1000}} {
				ps = append(ps, Plan{keys, most, ws[0], ws[1], ws[2], ws[3]})
			}
		}
	}
	return ps
}

func seeds() []uint64 {
	return []uint64{0, 1, 2, 12345, 1 << 63, math.MaxUint64}
}

// sound tells whether operations are a transaction of a plan.
func sound(p Plan, ops []api.Op) bool {
	for _, op := range ops {
		read := op.Kind == api.Read && op.Val == 0
		write := op.Kind == api.Write && op.Val >= 16 && p.Writes+p.Both > 0
		if !read && !write || op.Key < 0 || op.Key >= p.Keys {
			return false
		}
	}
	return len(ops) >= 1 && len(ops) <= p.Most
}

func TestAsTheChapterSays(t *testing.T) {
	for _, p := range plans() {
		for _, seed := range seeds() {
			for _, client := range []int{1, 2, 9, 16} {
				g := made(t, p, client, seed)
				m := &model{p: p, client: client, draws: mix.New(seed).Fork(uint64(client))}
				for i := range 40 {
					got, want := g.Next(), m.next()
					if !slices.Equal(got, want) || !sound(p, got) {
						t.Fatalf("%v, client %d, seed %d, transaction %d: %v, want %v", p, client, seed, i, got, want)
					}
				}
			}
		}
	}
}

func TestHowOftenEachKindComes(t *testing.T) {
	g := made(t, Plan{Keys: 16, Most: 1, Reads: 300, Writes: 700}, 1, 3)
	writes, keys := 0, map[int]int{}
	for range 8000 {
		op := g.Next()[0]
		keys[op.Key]++
		if op.Kind == api.Write {
			writes++
		}
	}
	if writes < 5300 || writes > 5900 {
		t.Error("writes:", writes)
	}
	for key := range 16 {
		if keys[key] < 350 || keys[key] > 650 {
			t.Error("keys:", keys)
		}
	}
	g = made(t, Plan{Keys: 2, Most: 12, Reads: 1}, 1, 4)
	sizes := map[int]int{}
	for range 12000 {
		sizes[len(g.Next())]++
	}
	for size := 1; size <= 12; size++ {
		if sizes[size] < 800 || sizes[size] > 1200 {
			t.Error("sizes:", sizes)
		}
	}
}

// TestScans holds that a scan is of one key to three side by side, and ends at the last one.
func TestScans(t *testing.T) {
	g := made(t, Plan{Keys: 4, Most: 12, Scans: 1}, 1, 8)
	starts := map[[2]int]int{}
	for range 3000 {
		ops := g.Next()
		for i := 0; i+3 < len(ops); i++ {
			if i > 0 && ops[i].Key == ops[i-1].Key+1 {
				continue
			}
			run := 1
			for i+run < len(ops) && ops[i+run].Key == ops[i].Key+run {
				run++
			}
			starts[[2]int{ops[i].Key, run}]++
		}
	}
	for _, x := range [][2]int{{0, 1}, {0, 2}, {0, 3}, {1, 1}, {1, 2}, {1, 3}, {2, 1}, {2, 2}, {3, 1}} {
		if starts[x] == 0 {
			t.Errorf("no scan of %d, of %d keys", x[0], x[1])
		}
	}
}

// TestNoTwoWritesHaveOneValue takes all clients, of one seed and of others.
func TestNoTwoWritesHaveOneValue(t *testing.T) {
	writer := map[int]int{}
	for client := 1; client <= api.MaxClients; client++ {
		g := made(t, Plan{Keys: 3, Most: 12, Reads: 1, Writes: 1, Both: 2, Scans: 1}, client, uint64(client%2))
		n := 0
		for range 300 {
			for _, op := range g.Next() {
				if op.Kind != api.Write {
					continue
				}
				n++
				if op.Val != 16*n+client-1 || writer[op.Val] != 0 || Who(op.Val) != client {
					t.Fatalf("client %d, write %d: %d, of %d, and Who says %d", client, n, op.Val, writer[op.Val], Who(op.Val))
				}
				writer[op.Val] = client
			}
		}
		if n < 300 {
			t.Error("few writes:", n)
		}
	}
}

func TestWho(t *testing.T) {
	for client := 1; client <= api.MaxClients; client++ {
		for _, n := range []int{1, 2, 3, 1000, 1<<36 - 1} {
			if got := Who(16*n + client - 1); got != client {
				t.Errorf("Who(%d): %d, want %d", 16*n+client-1, got, client)
			}
		}
	}
	if Who(16) != 1 || Who(31) != 16 || Who(32) != 1 || Who(50) != 3 || Who(api.MaxVal-1) != 16 {
		t.Error(Who(16), Who(31), Who(32), Who(50), Who(api.MaxVal-1))
	}
	// Of what nobody writes there is nothing to tell; it ends all the same.
	for _, val := range []int{0, -1, -16, math.MinInt, math.MaxInt} {
		Who(val)
	}
}

// TestTheyMakeHistories lets all clients ask at once for what they draw.
func TestTheyMakeHistories(t *testing.T) {
	for _, p := range plans() {
		var es []api.Event
		gens := map[int]*Gen{}
		for client := 1; client <= api.MaxClients; client++ {
			gens[client] = made(t, p, client, 77)
		}
		for len(es) < api.MaxEvents-2*api.MaxClients {
			for client := 1; client <= api.MaxClients; client++ {
				es = append(es, api.Event{Kind: api.Invoke, Client: client, Ops: gens[client].Next()})
			}
			for client := 1; client <= api.MaxClients; client++ {
				es = append(es, api.Event{Kind: api.Info, Client: client})
			}
		}
		if _, at, e := hist.Of(es); e != api.OK {
			t.Fatal("no history:", p, at, e)
		}
	}
}

func TestNilAndZeroGenerators(t *testing.T) {
	var none *Gen
	for range 3 {
		if ops := none.Next(); len(ops) != 0 {
			t.Error("nil:", ops)
		}
	}
	zero := &Gen{}
	for range 3 {
		// No plan says what comes; it ends all the same.
		zero.Next()
	}
}

func TestGeneratorsNeverMeet(t *testing.T) {
	p := Plan{Keys: 7, Most: 9, Reads: 1, Writes: 1, Both: 1, Scans: 1}
	alone := made(t, p, 4, 6)
	var want [][]api.Op
	for range 30 {
		want = append(want, alone.Next())
	}
	a, b, other := made(t, p, 4, 6), made(t, p, 4, 6), made(t, p, 5, 6)
	for range 15 {
		b.Next()
		other.Next()
	}
	for i := range 15 {
		if got := a.Next(); !slices.Equal(got, want[i]) {
			t.Fatalf("transaction %d: %v, want %v", i, got, want[i])
		}
	}
	// One that is copied goes on as it would have, and so does the first.
	c := *a
	for i := 15; i < 30; i++ {
		if got := c.Next(); !slices.Equal(got, want[i]) {
			t.Fatalf("transaction %d of a copy: %v, want %v", i, got, want[i])
		}
	}
	for i := 15; i < 30; i++ {
		if got := a.Next(); !slices.Equal(got, want[i]) {
			t.Fatalf("transaction %d beside a copy: %v, want %v", i, got, want[i])
		}
	}
}

// TestClientsAndSeedsDiffer holds that another client, or seed, draws something else.
func TestClientsAndSeedsDiffer(t *testing.T) {
	p := Plan{Keys: 16, Most: 12, Reads: 1}
	drawn := func(client int, seed uint64) []api.Op {
		g := made(t, p, client, seed)
		var ops []api.Op
		for range 10 {
			ops = append(ops, g.Next()...)
		}
		return ops
	}
	var all [][]api.Op
	for client := 1; client <= api.MaxClients; client++ {
		for _, seed := range seeds() {
			ops := drawn(client, seed)
			if !slices.Equal(ops, drawn(client, seed)) {
				t.Error("two answers to one question:", client, seed)
			}
			if slices.ContainsFunc(all, func(o []api.Op) bool { return slices.Equal(o, ops) }) {
				t.Error("drawn twice:", client, seed)
			}
			all = append(all, ops)
		}
	}
}

func TestAnswersAreNewMemory(t *testing.T) {
	p := Plan{Keys: 7, Most: 12, Reads: 1, Writes: 1, Both: 1, Scans: 3}
	a, b := made(t, p, 4, 6), made(t, p, 4, 6)
	var had [][]api.Op
	var kept [][]api.Op
	for range 50 {
		ops := a.Next()
		kept = append(kept, ops)
		had = append(had, slices.Clone(ops))
		// The same of the other one is overwritten, room and all.
		same := b.Next()
		if !slices.Equal(ops, same) {
			t.Fatal("two of one seed differ:", ops, same)
		}
		clear(same[:cap(same)])
	}
	for i, ops := range kept {
		if !slices.Equal(ops, had[i]) {
			t.Error("what was answered is changed later:", ops, had[i])
		}
	}
}
