package deps

import (
	"maps"
	"math/rand"
	"slices"
	"testing"

	"crucible/api"
	"crucible/chains"
	"crucible/flaws"
	"crucible/graph"
	"crucible/hist"
)

// hasOp tells whether an operation stands in a list, whatever its kind is there.
func hasOp(ops []api.Op, key, val int) bool {
	return slices.ContainsFunc(ops, func(op api.Op) bool { return op.Key == key && op.Val == val })
}

func writes(t api.Txn, key int) bool {
	return slices.ContainsFunc(hist.Writes(t), func(op api.Op) bool { return op.Key == key })
}

// ahead tells whether the facts say that a's write of a key stands ahead of b's.
func ahead(f chains.Facts, key, a, b int) bool {
	so, said := f[before(key, min(a, b), max(a, b))]
	return said && so == (a < b)
}

func modelWW(ts []api.Txn, f chains.Facts, a, b int) bool {
	for key := range api.MaxKeys {
		if writes(ts[a], key) && writes(ts[b], key) && ahead(f, key, a, b) {
			return true
		}
	}
	return false
}

func modelWR(ts []api.Txn, a, b int) bool {
	return slices.ContainsFunc(hist.Reads(ts[b]), func(read api.Op) bool {
		return hasOp(hist.Writes(ts[a]), read.Key, read.Val)
	})
}

// modelRW asks of each read of a who wrote what it has read, and where b's write of the key stands.
func modelRW(ts []api.Txn, f chains.Facts, a, b int) bool {
	for _, read := range hist.Reads(ts[a]) {
		if !writes(ts[b], read.Key) {
			continue
		}
		by, _ := flaws.Source(ts, read.Key, read.Val)
		if by < 0 || by != b && ahead(f, read.Key, by, b) {
			return true
		}
	}
	return false
}

// modelEdges asks of each two, and each kind.
func modelEdges(ts []api.Txn, f chains.Facts) []api.Edge {
	var edges []api.Edge
	for a := range ts {
		for b := range ts {
			first, _ := chains.Is(ts, f, a)
			second, _ := chains.Is(ts, f, b)
			if a == b || !first || !second {
				continue
			}
			for kind, has := range map[int]bool{api.WW: modelWW(ts, f, a, b), api.WR: modelWR(ts, a, b), api.RW: modelRW(ts, f, a, b)} {
				if has {
					edges = append(edges, api.Edge{From: a, To: b, Kind: kind})
				}
			}
		}
	}
	slices.SortFunc(edges, func(a, b api.Edge) int {
		return slices.Compare([]int{a.From, a.To, a.Kind}, []int{b.From, b.To, b.Kind})
	})
	return edges
}

func modelLift(edges []api.Edge, level int) []graph.Arc {
	var arcs []graph.Arc
	for _, e := range edges {
		if level != api.Snapshot || e.Kind != api.RW {
			arcs = append(arcs, graph.Arc{From: e.From, To: e.To})
		}
		for _, next := range edges {
			if level == api.Snapshot && e.Kind != api.RW && next.Kind == api.RW && next.From == e.To {
				arcs = append(arcs, graph.Arc{From: e.From, To: next.To})
			}
		}
	}
	return arcs
}

// forbidden tells whether edges have a cycle of unlike nodes that a level forbids: it tries all of them, each from its least node on.
func forbidden(edges []api.Edge, level int) bool {
	var walk func(way []api.Edge, met []int) bool
	walk = func(way []api.Edge, met []int) bool {
		first, last := way[0], way[len(way)-1]
		if last.To == first.From {
			return level == api.Serial || last.Kind != api.RW || first.Kind != api.RW
		}
		for _, e := range edges {
			two := level == api.Snapshot && e.Kind == api.RW && last.Kind == api.RW
			if e.From != last.To || e.To < first.From || slices.Contains(met, e.To) || two {
				continue
			}
			if walk(append(slices.Clone(way), e), append(slices.Clone(met), e.To)) {
				return true
			}
		}
		return false
	}
	return slices.ContainsFunc(edges, func(e api.Edge) bool { return e.To > e.From && walk([]api.Edge{e}, []int{e.To}) })
}

// asked is transactions of a few operations: each value is written once, and nothing is read yet.
func asked(source *rand.Rand, n int) []api.Txn {
	ts := make([]api.Txn, source.Intn(n))
	keys, val := source.Intn(3)+1, 0
	for i := range ts {
		ts[i] = txn([]int{api.Done, api.Done, api.Done, api.Open, api.Open, api.Gone}[source.Intn(6)])
		for range source.Intn(4) + 1 {
			key := source.Intn(keys)
			op := r(key, 0)
			if source.Intn(2) == 0 {
				val++
				op = w(key, val)
			}
			ts[i].Ops = append(ts[i].Ops, op)
		}
	}
	return ts
}

// drawn is transactions without flaws: each read has one of the last writes of the others that aren't gone, or 0, or what its own one wrote.
func drawn(source *rand.Rand) []api.Txn {
	ts := asked(source, 7)
	for i, t := range ts {
		last := map[int]int{}
		for at, op := range t.Ops {
			if op.Kind == api.Write {
				last[op.Key] = op.Val
				continue
			}
			vals := []int{0}
			for j, by := range ts {
				for _, write := range hist.Writes(by) {
					if j != i && by.State != api.Gone && write.Key == op.Key {
						vals = append(vals, write.Val)
					}
				}
			}
			own, wrote := last[op.Key]
			if wrote {
				vals = []int{own}
			}
			if t.State == api.Done {
				t.Ops[at].Val = vals[source.Intn(len(vals))]
			}
		}
	}
	return ts
}

// someFacts says of each choice, more or less often, something, and of others, too.
func someFacts(source *rand.Rand, ts []api.Txn) chains.Facts {
	f := chains.Facts{}
	often := source.Intn(8) + 1
	for _, c := range chains.Choices(ts) {
		if source.Intn(often+1) < often {
			f[c] = source.Intn(3) > 0
		}
	}
	for range source.Intn(6) {
		c := chains.Choice{Kind: source.Intn(4), Key: source.Intn(4) - 1, A: source.Intn(9) - 1, B: source.Intn(9) - 1}
		f[c] = source.Intn(2) == 0
	}
	return f
}

func TestDrawnOnesAsTheChapterSays(t *testing.T) {
	source := rand.New(rand.NewSource(10))
	kinds, broken, kept := map[int]int{}, map[int]int{}, map[int]int{}
	for range 4000 {
		ts := drawn(source)
		f := someFacts(source, ts)
		if fs := flaws.All(ts); len(fs) > 0 {
			t.Fatalf("%v has flaws: %v", ts, fs)
		}
		edges := modelEdges(ts, f)
		holdEdges(t, ts, f, edges...)
		for _, e := range edges {
			kinds[e.Kind]++
		}
		for _, level := range []int{api.Serial, api.Snapshot} {
			arcs := modelLift(edges, level)
			if got := Lift(edges, level); !slices.Equal(got, arcs) {
				t.Fatalf("Lift(%v, %d): %v, want %v", edges, level, got, arcs)
			}
			holdBroken(t, ts, f, level, graph.Cycle(len(ts), arcs)...)
			if forbidden(edges, level) {
				broken[level]++
			} else {
				kept[level]++
			}
			if got := Broken(ts, f, level); (len(got) > 0) != forbidden(edges, level) {
				t.Fatalf("Broken(%v, %v, %d): %v, of %v", ts, f, level, got, edges)
			}
		}
		if t.Failed() {
			return
		}
	}
	for _, n := range []int{kinds[api.WW], kinds[api.WR], kinds[api.RW], broken[api.Serial], broken[api.Snapshot], kept[api.Serial], kept[api.Snapshot]} {
		if n < 500 {
			t.Error("too few of a kind:", kinds, broken, kept)
		}
	}
}

// TestWithMoreFactsItStays says one choice after the other, in any order.
func TestWithMoreFactsItStays(t *testing.T) {
	source := rand.New(rand.NewSource(11))
	stayed := 0
	for range 1500 {
		ts := drawn(source)
		cs := chains.Choices(ts)
		source.Shuffle(len(cs), func(i, j int) { cs[i], cs[j] = cs[j], cs[i] })
		for _, level := range []int{api.Serial, api.Snapshot} {
			f, was := chains.Facts{}, false
			for _, c := range cs {
				f = f.With(c, source.Intn(2) == 0)
				is := len(Broken(ts, f, level)) > 0
				if was && !is {
					t.Fatalf("%v, %v, %d: with %v it is mended", ts, f, level, c)
				}
				if was {
					stayed++
				}
				was = is
			}
		}
	}
	if stayed < 1000 {
		t.Error("too few that stay:", stayed)
	}
}

// run does transactions one after the other, each upon what the ones ahead left; old: upon what stood some time ahead, unless somebody has written since what it writes.
func run(source *rand.Rand, old bool) ([]api.Txn, chains.Facts) {
	ts := asked(source, 10)
	f := chains.Facts{}
	states := []map[int]int{{}}
	for _, i := range source.Perm(len(ts)) {
		now := states[len(states)-1]
		from := now
		if old {
			from = states[source.Intn(len(states))]
		}
		next := maps.Clone(now)
		first := true
		for _, write := range hist.Writes(ts[i]) {
			first = first && now[write.Key] == from[write.Key]
			next[write.Key] = write.Val
		}
		if !first {
			ts[i].State = api.Gone
		}
		is := first && (ts[i].State == api.Done || ts[i].State == api.Open && source.Intn(2) == 0)
		if !is {
			continue
		}
		f[commit(i)] = true
		sayBehind(ts, f, i)
		states = append(states, next)
		tell(ts[i], from)
	}
	return ts, f
}

// sayBehind says that a transaction's writes stand behind those of all that were done ahead of it.
func sayBehind(ts []api.Txn, f chains.Facts, i int) {
	for a := range ts {
		if !f[commit(a)] || a == i {
			continue
		}
		for _, write := range hist.Writes(ts[i]) {
			f[before(write.Key, min(a, i), max(a, i))] = a < i
		}
	}
}

// tell lets a transaction that is done read upon a state.
func tell(t api.Txn, state map[int]int) {
	if t.State != api.Done {
		return
	}
	own := maps.Clone(state)
	for at, op := range t.Ops {
		if op.Kind == api.Write {
			own[op.Key] = op.Val
		}
		t.Ops[at].Val = own[op.Key]
	}
}

// TestWhatWasRunIsNotBroken runs some as each level asks: by the order in which they were done nothing is forbidden.
func TestWhatWasRunIsNotBroken(t *testing.T) {
	source := rand.New(rand.NewSource(12))
	skewed := 0
	for range 6000 {
		ts, f := run(source, false)
		holdBroken(t, ts, f, api.Serial)
		holdBroken(t, ts, f, api.Snapshot)
		ts, f = run(source, true)
		holdBroken(t, ts, f, api.Snapshot)
		if len(Broken(ts, f, api.Serial)) > 0 {
			skewed++
		}
		if t.Failed() {
			return
		}
	}
	if skewed < 50 {
		t.Error("too few that Serial forbids:", skewed)
	}
}

// TestAnythingEnds hands in what no history tells: values twice, other kinds, keys and states, flaws, and facts of anybody.
func TestAnythingEnds(t *testing.T) {
	source := rand.New(rand.NewSource(13))
	for range 3000 {
		ts := make([]api.Txn, source.Intn(8))
		for i := range ts {
			ts[i] = txn(source.Intn(5) - 1)
			for range source.Intn(8) {
				ts[i].Ops = append(ts[i].Ops, api.Op{Kind: source.Intn(4), Key: source.Intn(4) - 1, Val: source.Intn(5) - 1})
			}
		}
		f := someFacts(source, ts)
		Edges(ts, f)
		for level := range 4 {
			Broken(ts, f, level)
		}
	}
	many := slices.Repeat([]api.Txn{open(r(0, 0), w(0, 1)), done(r(0, 1), w(0, 2), w(1, 3))}, 1<<15)
	f := chains.Facts{}
	for i := range 1 << 15 {
		f[before(1, 1, 2*i+3)], f[commit(2*i)], f[chains.Choice{Kind: chains.Commit, Key: 1, A: 2 * i}] = true, i%2 == 0, true
	}
	for _, level := range []int{api.Serial, api.Snapshot} {
		Broken(many, f, level)
	}
}

// TestTheGreatestHistory has as many as there may be, each of which reads and writes the same keys behind the one ahead.
func TestTheGreatestHistory(t *testing.T) {
	ts := make([]api.Txn, api.MaxEvents/2)
	f := chains.Facts{}
	last := make([]int, api.MaxOps/2)
	for i := range ts {
		ts[i] = done()
		for key := range last {
			val := 1 + i*len(last) + key
			ts[i].Ops = append(ts[i].Ops, r(key, last[key]), w(key, val))
			last[key] = val
			for a := range i {
				f[before(key, a, i)] = true
			}
		}
	}
	var want []api.Edge
	for i := range ts {
		for b := i + 1; b < len(ts); b++ {
			want = append(want, ww(i, b))
			if b == i+1 {
				want = append(want, wr(i, b))
			}
			want = append(want, rw(i, b))
		}
	}
	if !slices.Equal(Edges(ts, f), want) {
		t.Error("Edges of the greatest history")
	}
	holdNotBroken := func(level int) {
		if got := Broken(ts, f, level); len(got) > 0 {
			t.Error("Broken", level, got)
		}
	}
	holdNotBroken(api.Serial)
	holdNotBroken(api.Snapshot)
	f[before(3, 7, 150)] = false
	if got := Broken(ts, f, api.Serial); !slices.Equal(got, []int{7, 150}) {
		t.Error("Broken by one pair", got)
	}
	if got := Broken(ts, f, api.Snapshot); !slices.Equal(got, []int{7}) {
		t.Error("Broken by one pair", got)
	}
}
