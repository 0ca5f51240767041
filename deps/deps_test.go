package deps

import (
	"maps"
	"math"
	"reflect"
	"slices"
	"testing"

	"crucible/api"
	"crucible/chains"
	"crucible/graph"
)

func r(key, val int) api.Op { return api.Op{Kind: api.Read, Key: key, Val: val} }
func w(key, val int) api.Op { return api.Op{Kind: api.Write, Key: key, Val: val} }

func txn(state int, ops ...api.Op) api.Txn { return api.Txn{Client: 1, State: state, Ops: ops} }
func open(ops ...api.Op) api.Txn           { return txn(api.Open, ops...) }
func done(ops ...api.Op) api.Txn           { return txn(api.Done, ops...) }
func gone(ops ...api.Op) api.Txn           { return txn(api.Gone, ops...) }

func ww(from, to int) api.Edge { return api.Edge{From: from, To: to, Kind: api.WW} }
func wr(from, to int) api.Edge { return api.Edge{From: from, To: to, Kind: api.WR} }
func rw(from, to int) api.Edge { return api.Edge{From: from, To: to, Kind: api.RW} }

func commit(a int) chains.Choice { return chains.Choice{Kind: chains.Commit, A: a} }
func before(key, a, b int) chains.Choice {
	return chains.Choice{Kind: chains.Before, Key: key, A: a, B: b}
}

// facts says of some choices that they are so, and of others that they aren't.
func facts(so []chains.Choice, not ...chains.Choice) chains.Facts {
	f := chains.Facts{}
	for _, c := range so {
		f[c] = true
	}
	for _, c := range not {
		f[c] = false
	}
	return f
}

// choices is a list of them.
func choices(cs ...chains.Choice) []chains.Choice { return cs }

func holdEdges(t *testing.T, ts []api.Txn, f chains.Facts, want ...api.Edge) {
	t.Helper()
	if got := Edges(ts, f); !slices.Equal(got, want) {
		t.Errorf("Edges(%v, %v): %v, want %v", ts, f, got, want)
	}
}

// holdLift holds Lift against pairs of numbers: from and to.
func holdLift(t *testing.T, edges []api.Edge, level int, pairs ...int) {
	t.Helper()
	var want []graph.Arc
	for i := 0; i+1 < len(pairs); i += 2 {
		want = append(want, graph.Arc{From: pairs[i], To: pairs[i+1]})
	}
	if got := Lift(edges, level); !slices.Equal(got, want) {
		t.Errorf("Lift(%v, %d): %v, want %v", edges, level, got, want)
	}
}

func holdBroken(t *testing.T, ts []api.Txn, f chains.Facts, level int, want ...int) {
	t.Helper()
	if got := Broken(ts, f, level); !slices.Equal(got, want) {
		t.Errorf("Broken(%v, %v, %d): %v, want %v", ts, f, level, got, want)
	}
}

func TestTheDocumentsExample(t *testing.T) {
	ts := []api.Txn{done(r(0, 0), w(1, 1)), done(r(1, 0), w(0, 2))}
	holdEdges(t, ts, nil, rw(0, 1), rw(1, 0))
	holdBroken(t, ts, nil, api.Serial, 0, 1)
	holdBroken(t, ts, nil, api.Snapshot)
}

func TestNoDependencies(t *testing.T) {
	holdEdges(t, nil, nil)
	holdEdges(t, []api.Txn{}, chains.Facts{})
	holdEdges(t, nil, facts(choices(commit(0), before(0, 0, 1))))
	// Two that read the same, and two that write other keys.
	holdEdges(t, []api.Txn{done(r(0, 0)), done(r(0, 0)), done(w(1, 1)), done(w(2, 2))}, facts(choices(before(1, 2, 3), before(2, 2, 3))))
	// Nobody depends on himself: not by what he reads ahead of his write, nor behind it.
	holdEdges(t, []api.Txn{done(r(0, 0), w(0, 1), r(0, 1), w(0, 2), r(0, 2))}, nil)
	holdEdges(t, []api.Txn{open(w(0, 1)), done(r(0, 1), w(0, 2))}, facts(choices(before(0, 0, 1))), ww(0, 1), wr(0, 1))
}

func TestWhoReadsAWrite(t *testing.T) {
	ts := []api.Txn{done(r(0, 1)), done(w(0, 1), w(1, 2)), done(r(1, 2), r(0, 1), r(1, 2)), done(r(0, 0), r(1, 0))}
	holdEdges(t, ts, nil, wr(1, 0), wr(1, 2), rw(3, 1))
	// What one reads of itself is no read; the same value of another key is another one.
	holdEdges(t, []api.Txn{done(w(0, 1)), done(w(0, 2), r(0, 2))}, nil)
	// One that is sure is done, whatever the facts say; who is open or gone has read nothing.
	holdEdges(t, []api.Txn{open(w(0, 1)), done(r(0, 1)), open(r(0, 0)), gone(r(0, 0)), open(r(0, 0), w(3, 3))},
		facts(choices(commit(4)), commit(0)), wr(0, 1))
}

func TestWhichWriteStandsAhead(t *testing.T) {
	ts := []api.Txn{done(w(0, 1)), done(w(0, 2), w(1, 3)), done(w(1, 4), w(0, 5))}
	holdEdges(t, ts, nil)
	holdEdges(t, ts, facts(choices(before(0, 0, 1))), ww(0, 1))
	holdEdges(t, ts, facts(nil, before(0, 0, 1)), ww(1, 0))
	// What follows from two facts isn't said by them.
	holdEdges(t, ts, facts(choices(before(0, 0, 1), before(0, 1, 2))), ww(0, 1), ww(1, 2))
	// By two keys both ways, or the same way: then it is one.
	holdEdges(t, ts, facts(choices(before(0, 1, 2)), before(1, 1, 2)), ww(1, 2), ww(2, 1))
	holdEdges(t, ts, facts(choices(before(0, 1, 2), before(1, 1, 2))), ww(1, 2))
}

func TestWhichReadIsWrittenOver(t *testing.T) {
	ts := []api.Txn{done(w(0, 1)), done(w(0, 2)), done(r(0, 1)), done(w(0, 3))}
	holdEdges(t, ts, nil, wr(0, 2))
	holdEdges(t, ts, facts(choices(before(0, 0, 1))), ww(0, 1), wr(0, 2), rw(2, 1))
	holdEdges(t, ts, facts(nil, before(0, 0, 1)), wr(0, 2), ww(1, 0))
	holdEdges(t, ts, facts(nil, before(0, 1, 3), before(0, 0, 3)), wr(0, 2), ww(3, 0), ww(3, 1))
	// All that stand behind it, not the next one alone; those alone of which the facts say so.
	holdEdges(t, ts, facts(choices(before(0, 0, 1), before(0, 1, 3), before(0, 0, 3))), ww(0, 1), wr(0, 2), ww(0, 3), ww(1, 3), rw(2, 1), rw(2, 3))
	holdEdges(t, ts, facts(choices(before(0, 0, 1), before(0, 1, 3))), ww(0, 1), wr(0, 2), ww(1, 3), rw(2, 1))
	// The order of another key is nothing to it.
	ts = []api.Txn{done(w(0, 1), w(1, 2)), done(w(0, 3), w(1, 4)), done(r(0, 1))}
	holdEdges(t, ts, facts(choices(before(1, 0, 1))), ww(0, 1), wr(0, 2))
	// Who writes over its own read: the two others alone depend on each other by it.
	ts = []api.Txn{done(w(0, 1)), done(r(0, 1), w(0, 2)), done(r(0, 2), w(0, 3))}
	holdEdges(t, ts, facts(choices(before(0, 0, 1), before(0, 1, 2), before(0, 0, 2))), ww(0, 1), wr(0, 1), ww(0, 2), ww(1, 2), wr(1, 2), rw(1, 2))
	// A write that is read, by one whose write stands ahead of that.
	holdEdges(t, ts[:2], facts(nil, before(0, 0, 1)), wr(0, 1), ww(1, 0))
}

func TestReadsAheadOfAllWrites(t *testing.T) {
	// Each one that writes the key stands behind, whatever the facts say of the order.
	ts := []api.Txn{done(w(0, 1), w(0, 2)), done(r(0, 0), r(0, 0)), open(w(0, 3)), gone(w(0, 4)), done(w(1, 5)), done(w(0, 6))}
	holdEdges(t, ts, nil, rw(1, 0), rw(1, 5))
	holdEdges(t, ts, facts(choices(commit(2))), rw(1, 0), rw(1, 2), rw(1, 5))
	holdEdges(t, ts, facts(nil, commit(2)), rw(1, 0), rw(1, 5))
	holdEdges(t, ts, facts(choices(before(0, 0, 5))), ww(0, 5), rw(1, 0), rw(1, 5))
	// The reader's own write is another one's, but not its own.
	holdEdges(t, []api.Txn{done(r(0, 0), w(0, 1)), done(r(0, 0), w(0, 2))}, nil, rw(0, 1), rw(1, 0))
	// The key that the reader wrote ahead isn't read.
	holdEdges(t, []api.Txn{done(w(0, 1), r(0, 1)), done(w(0, 2))}, nil)
}

func TestThoseThatAreNotDone(t *testing.T) {
	ts := []api.Txn{open(w(0, 1)), done(w(0, 2)), gone(w(0, 3)), done(r(0, 2)), open(w(0, 4))}
	orders := choices(before(0, 0, 1), before(0, 1, 2), before(0, 0, 2), before(0, 1, 4), before(0, 0, 4))
	holdEdges(t, ts, facts(orders), wr(1, 3))
	holdEdges(t, ts, facts(orders, commit(0), commit(4)), wr(1, 3))
	holdEdges(t, ts, facts(append(orders, commit(0)), commit(4)), ww(0, 1), wr(1, 3))
	holdEdges(t, ts, facts(append(orders, commit(4)), commit(0)), wr(1, 3), ww(1, 4), rw(3, 4))
	// One that is gone, or writes nothing, is not done by any fact.
	holdEdges(t, ts, facts(append(orders, commit(2))), wr(1, 3))
	holdEdges(t, []api.Txn{open(r(0, 0)), done(w(0, 1))}, facts(choices(commit(0), before(0, 0, 1))))
}

func TestFactsOfNoChoice(t *testing.T) {
	ts := []api.Txn{done(w(0, 1)), done(w(0, 2)), open(w(0, 3)), done(w(1, 4)), done(r(0, 1), r(0, 1))}
	odd := choices(
		before(0, 1, 0), before(0, 0, 0), before(1, 0, 1), before(0, 0, 3), before(1, 0, 3), before(0, 0, 4), before(0, -1, 0),
		before(0, 0, 5), before(-1, 0, 1), before(16, 0, 1), before(0, math.MinInt, math.MaxInt), before(0, 0, math.MaxInt),
		commit(0), commit(-1), commit(5), commit(math.MaxInt), commit(math.MinInt),
		chains.Choice{A: 0, B: 1}, chains.Choice{Kind: chains.Commit, A: 0, B: 1}, chains.Choice{Kind: 3, A: 0, B: 1},
		chains.Choice{Kind: chains.Commit, A: 2, B: 1}, chains.Choice{Kind: chains.Commit, Key: 1, A: 2}, chains.Choice{Kind: -1, A: 2}, before(0, 2, 0),
	)
	holdEdges(t, ts, facts(odd), wr(0, 4))
	holdEdges(t, ts, facts(nil, odd...), wr(0, 4))
	holdEdges(t, ts, facts(odd, before(0, 0, 1)), wr(0, 4), ww(1, 0))
}

func TestTheOrderOfEdges(t *testing.T) {
	// All kinds between two; many that begin at one, and end at one.
	ts := []api.Txn{done(w(0, 1), w(1, 2), r(2, 0), r(3, 0)), done(r(0, 1), w(1, 3), w(2, 4)), done(r(0, 1), w(3, 5)), done(r(3, 5), w(2, 6))}
	f := facts(choices(before(1, 0, 1)), before(2, 1, 3))
	holdEdges(t, ts, f, ww(0, 1), wr(0, 1), rw(0, 1), wr(0, 2), rw(0, 2), rw(0, 3), wr(2, 3), ww(3, 1))
	for range 50 {
		if a, b := Edges(ts, f), Edges(ts, maps.Clone(f)); !slices.Equal(a, b) {
			t.Fatal("Edges tells of the order in which the facts are gone through", a, b)
		}
	}
}

func TestArcsOfEdges(t *testing.T) {
	for _, level := range []int{api.Serial, api.Snapshot, 0, -1, 3, math.MaxInt} {
		holdLift(t, nil, level)
		holdLift(t, []api.Edge{}, level)
		holdLift(t, []api.Edge{wr(0, 1), ww(0, 1), wr(0, 1), ww(1, 2)}, level, 0, 1, 0, 1, 0, 1, 1, 2)
	}
	mixed := []api.Edge{rw(0, 3), ww(0, 1), rw(1, 2), wr(2, 1), rw(1, 0), rw(1, 2), rw(3, 0), wr(3, 3)}
	for _, level := range []int{api.Serial, 0, -1, 3, math.MinInt} {
		holdLift(t, mixed, level, 0, 3, 0, 1, 1, 2, 2, 1, 1, 0, 1, 2, 3, 0, 3, 3)
	}
	// Each that is no RW, and behind it those RW that begin where it ends: one RW alone, not two.
	holdLift(t, mixed, api.Snapshot, 0, 1, 0, 2, 0, 0, 0, 2, 2, 1, 2, 2, 2, 0, 2, 2, 3, 3, 3, 0)
	holdLift(t, []api.Edge{rw(0, 1), rw(1, 0)}, api.Snapshot)
	// In the edges' order, which needn't be a rising one.
	holdLift(t, []api.Edge{ww(5, 2), rw(2, 9), wr(1, 5), rw(5, 7), rw(2, 3), rw(5, 0)}, api.Snapshot, 5, 2, 5, 9, 5, 3, 1, 5, 1, 7, 1, 0)
	// Whatever the nodes and the kinds are.
	far := []api.Edge{{From: math.MinInt, To: math.MaxInt, Kind: 7}, rw(math.MaxInt, -1), {From: 0, To: 0}, {From: 1, To: 2, Kind: -1}}
	holdLift(t, far, api.Snapshot, math.MinInt, math.MaxInt, math.MinInt, -1, 0, 0, 1, 2)
	holdLift(t, far, api.Serial, math.MinInt, math.MaxInt, math.MaxInt, -1, 0, 0, 1, 2)
}

func TestWhatALevelForbids(t *testing.T) {
	// A lost update: RW, WW.
	ts := []api.Txn{done(r(0, 0), w(0, 1)), done(r(0, 0), w(0, 2))}
	holdBroken(t, ts, nil, api.Serial, 0, 1)
	holdBroken(t, ts, nil, api.Snapshot)
	for _, so := range []bool{true, false} {
		holdBroken(t, ts, chains.Facts{before(0, 0, 1): so}, api.Serial, 0, 1)
	}
	// By Snapshot's arcs one writes ahead of the other one, and reads ahead of that: so it gets to itself.
	holdBroken(t, ts, facts(choices(before(0, 0, 1))), api.Snapshot, 0)
	holdBroken(t, ts, facts(nil, before(0, 0, 1)), api.Snapshot, 1)
	// Two that read each other's writes.
	ts = []api.Txn{done(w(3, 9)), done(r(0, 2), w(1, 1)), done(r(1, 1), w(0, 2))}
	holdBroken(t, ts, nil, api.Serial, 1, 2)
	holdBroken(t, ts, nil, api.Snapshot, 1, 2)
	// Half of another one's writes seen: WR, RW.
	ts = []api.Txn{done(w(0, 1), w(1, 2)), done(r(0, 1), r(1, 0))}
	holdBroken(t, ts, nil, api.Serial, 0, 1)
	holdBroken(t, ts, nil, api.Snapshot, 0)
	// Two that see two writes in unlike orders: RW, WR, RW, WR: each two are one arc of Snapshot's.
	ts = []api.Txn{done(w(0, 1)), done(w(1, 2)), done(r(0, 1), r(1, 0)), done(r(0, 0), r(1, 2))}
	holdBroken(t, ts, nil, api.Serial, 0, 2, 1, 3)
	holdBroken(t, ts, nil, api.Snapshot, 0, 1)
	// Three in a ring, two RW one behind the other: within the list, or where it ends and begins.
	ts = []api.Txn{done(r(0, 0), w(1, 1)), done(w(0, 3), w(2, 2)), done(r(2, 2), r(1, 0))}
	holdEdges(t, ts, nil, rw(0, 1), wr(1, 2), rw(2, 0))
	for range ts {
		holdBroken(t, ts, nil, api.Serial, 0, 1, 2)
		holdBroken(t, ts, nil, api.Snapshot)
		ts = append(ts[1:], ts[0])
	}
	// Any other level forbids what Serial does.
	for _, level := range []int{0, 3, -1, math.MaxInt} {
		holdBroken(t, ts, nil, level, 0, 1, 2)
	}
}

func TestNobodyIsBroken(t *testing.T) {
	for _, level := range []int{api.Serial, api.Snapshot, 0} {
		holdBroken(t, nil, nil, level)
		holdBroken(t, nil, facts(choices(commit(0), before(0, 0, 1))), level)
		holdBroken(t, []api.Txn{done(r(0, 0), w(0, 1), r(0, 1))}, nil, level)
	}
}

func TestWhatIsOpenForbidsNothing(t *testing.T) {
	ts := []api.Txn{open(w(0, 1), w(1, 2)), done(r(0, 0), w(1, 3)), done(r(1, 3), w(0, 4))}
	holdBroken(t, ts, nil, api.Serial)
	holdBroken(t, ts, facts(choices(before(0, 0, 2), before(1, 0, 1))), api.Serial)
	// 1 has read ahead of 0's write: so it can't write behind that one.
	holdBroken(t, ts, facts(choices(commit(0)), before(0, 0, 2), before(1, 0, 1)), api.Serial)
	round := facts(choices(commit(0), before(1, 0, 1)), before(0, 0, 2))
	holdBroken(t, ts, round, api.Serial, 0, 1)
	holdBroken(t, ts, round, api.Snapshot, 0)
	holdBroken(t, ts, round.With(commit(0), false), api.Serial)
}

func TestNothingIsSharedOrChanged(t *testing.T) {
	make2 := func() []api.Txn {
		return []api.Txn{done(w(0, 1), w(9, 9)), done(r(0, 1), w(0, 2), w(9, 8)), done(r(0, 0), r(9, 9)), done(r(0, 0))}
	}
	// Behind the end of each list there is room, in which something stands.
	room := make2()
	ts := room[:3]
	for i := range ts {
		ts[i].Ops = ts[i].Ops[:len(ts[i].Ops)-1]
	}
	f := facts(choices(before(0, 0, 1), before(9, 0, 1)))
	said := maps.Clone(f)
	want := []api.Edge{ww(0, 1), wr(0, 1), rw(2, 0), rw(2, 1)}
	edges := Edges(ts, f)
	if !slices.Equal(edges, want) {
		t.Fatal(edges)
	}
	line := append(slices.Clone(edges), rw(1, 2))
	arcs := Lift(line[:4], api.Snapshot)
	holdLift(t, line[:4], api.Snapshot, 0, 1, 0, 1)
	clear(arcs[:cap(arcs)])
	clear(edges[:cap(edges)])
	if !slices.Equal(line, append(want, rw(1, 2))) {
		t.Error("Lift changes the edges", line)
	}
	holdBroken(t, ts, f, api.Serial)
	for i := range ts {
		ts[i].Ops = ts[i].Ops[:len(ts[i].Ops)+1]
	}
	if !reflect.DeepEqual(room, make2()) || !maps.Equal(f, said) {
		t.Error("what was handed in is changed", room, f)
	}
	for i := range ts {
		ts[i].Ops = ts[i].Ops[:len(ts[i].Ops)-1]
	}
	holdEdges(t, ts, f, want[:4]...)
}
