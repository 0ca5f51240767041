package cert

import (
	"maps"
	"math"
	"reflect"
	"slices"
	"testing"

	"crucible/api"
	"crucible/check"
	"crucible/flaws"
)

func r(key, val int) api.Op { return api.Op{Kind: api.Read, Key: key, Val: val} }
func w(key, val int) api.Op { return api.Op{Kind: api.Write, Key: key, Val: val} }

// told is a transaction and how it ends: api.Ok, Fail or Info; 0: it doesn't.
type told struct {
	kind int
	ops  []api.Op
}

func ok(ops ...api.Op) told      { return told{api.Ok, ops} }
func fail(ops ...api.Op) told    { return told{api.Fail, ops} }
func info(ops ...api.Op) told    { return told{api.Info, ops} }
func endless(ops ...api.Op) told { return told{0, ops} }

// asked is the operations as a client asks for them: it has read nothing yet.
func asked(ops []api.Op) []api.Op {
	ops = slices.Clone(ops)
	for i, op := range ops {
		if op.Kind == api.Read {
			ops[i].Val = 0
		}
	}
	return ops
}

// history has a client for each transaction: all begin, then all end.
func history(txns ...told) []api.Event {
	var es []api.Event
	for i, x := range txns {
		es = append(es, api.Event{Kind: api.Invoke, Client: i + 1, Ops: asked(x.ops)})
	}
	for i, x := range txns {
		switch x.kind {
		case api.Ok:
			es = append(es, api.Event{Kind: api.Ok, Client: i + 1, Ops: slices.Clone(x.ops)})
		case api.Fail, api.Info:
			es = append(es, api.Event{Kind: x.kind, Client: i + 1})
		}
	}
	return es
}

var levels = []int{api.Serial, api.Snapshot}

func pass(done []bool, orders map[int][]int) check.Verdict {
	return check.Verdict{Kind: check.Pass, Proof: check.Proof{Done: done, Orders: orders}}
}

// failed is a verdict by the cycles of a search's steps.
func failed(cycles ...[]int) check.Verdict {
	v := check.Verdict{Kind: check.Failed}
	for _, c := range cycles {
		v.Proof.Tree = append(v.Proof.Tree, check.Node{Cycle: c})
	}
	return v
}

func flawed(txn, read, kind int) check.Verdict {
	return check.Verdict{Kind: check.Failed, Proof: check.Proof{Flaw: flaws.Flaw{Txn: txn, Read: read, Kind: kind}}}
}

// all is a list of so many trues.
func all(n int) []bool { return slices.Repeat([]bool{true}, n) }

func hold(t *testing.T, es []api.Event, level int, v check.Verdict, want bool) {
	t.Helper()
	if got := Holds(es, level, v); got != want {
		t.Errorf("Holds(%v, %d, %v): %v", es, level, v, got)
	}
}

// kinds is the verdicts' kinds, and some that are none.
var kinds = []int{check.Malformed, check.Pass, check.Failed, check.Unknown, check.Unknown + 1, -1, math.MaxInt, math.MinInt}

// skew is layer 11's example: each of two reads what the other one writes.
func skew() []api.Event { return history(ok(r(0, 0), w(1, 1)), ok(r(1, 0), w(0, 2))) }

func TestTheDocumentsExample(t *testing.T) {
	es := skew()
	hold(t, es, api.Serial, failed([]int{0, 1}), true)
	hold(t, es, api.Serial, failed([]int{1, 0}), true)
	for _, c := range [][]int{{0}, {1}, {0, 1, 0}, {0, 1, 0, 1}, {0, 0}, {1, 1}, {0, 2}, {2}, {-1}, {0, -1}, {math.MaxInt}, {math.MinInt, 0}, {}, nil} {
		hold(t, es, api.Serial, failed(c), false)
	}
	answer := map[int][]int{0: {1}, 1: {0}}
	hold(t, es, api.Serial, pass(all(2), answer), false)
	hold(t, es, api.Snapshot, pass(all(2), answer), true)
	for _, c := range [][]int{{0, 1}, {1, 0}, {0}, {1}, nil} {
		hold(t, es, api.Snapshot, failed(c), false)
	}
}

func TestMalformed(t *testing.T) {
	good := history(ok(r(0, 0), w(0, 1)))
	shown := pass(all(1), map[int][]int{0: {0}})
	alone := api.Event{Kind: api.Ok, Client: 1, Ops: []api.Op{r(0, 0)}}
	wrong := [][]api.Event{
		slices.Repeat(good, api.MaxEvents/2+1),
		{{}},
		{alone},
		{{Kind: api.Invoke, Client: api.MaxClients + 1, Ops: []api.Op{r(0, 0)}}},
		append(slices.Clone(good), alone),
		history(ok(w(0, 1)), ok(w(1, 1))),
		history(ok(w(0, 1), r(0, 0))),
		append(history(ok(r(0, 7))), alone),
	}
	proofs := []check.Proof{{}, shown.Proof, failed([]int{0}).Proof, flawed(0, 0, flaws.Thin).Proof}
	for _, kind := range kinds {
		for _, p := range proofs {
			v := check.Verdict{Kind: kind, Steps: 7, Proof: p}
			for _, es := range wrong {
				for _, level := range []int{api.Serial, api.Snapshot, 0, 3} {
					hold(t, es, level, v, kind == check.Malformed)
				}
			}
			for _, level := range []int{0, 3, -1, math.MaxInt, math.MinInt} {
				hold(t, nil, level, v, kind == check.Malformed)
				hold(t, good, level, v, kind == check.Malformed)
				hold(t, history(ok(r(0, 7))), level, v, kind == check.Malformed)
			}
			for _, level := range levels {
				if kind != check.Pass && kind != check.Failed {
					hold(t, good, level, v, false)
					hold(t, nil, level, v, false)
					hold(t, history(ok(r(0, 7))), level, v, false)
				}
			}
		}
	}
}

func TestNoEvents(t *testing.T) {
	for _, level := range levels {
		hold(t, nil, level, pass(nil, nil), true)
		hold(t, []api.Event{}, level, pass([]bool{}, map[int][]int{}), true)
		hold(t, nil, level, pass(all(1), nil), false)
		hold(t, nil, level, failed(), false)
		hold(t, nil, level, failed(nil), false)
		hold(t, nil, level, failed([]int{0}), false)
		hold(t, nil, level, check.Verdict{}, false)
	}
}

func TestPassByOrders(t *testing.T) {
	// 0 reads what 1 has written, and writes behind it; 2 writes another key; 3 failed.
	es := history(ok(r(0, 2), w(0, 1)), ok(w(0, 2), w(7, 3)), ok(w(7, 4)), fail(w(7, 5)))
	done := []bool{true, true, true, false}
	for _, level := range levels {
		for _, x := range []struct {
			orders map[int][]int
			want   bool
		}{
			{map[int][]int{0: {1, 0}, 7: {1, 2}}, true},
			{map[int][]int{0: {1, 0}, 7: {2, 1}}, true},
			{map[int][]int{0: {0, 1}, 7: {1, 2}}, false},
			{map[int][]int{0: {1, 0}, 7: {1, 2}, 3: nil, 15: {}}, true},
			{map[int][]int{0: {1, 0}, 7: {1, 2}, 16: {0}, -1: {9, 9}, math.MinInt: nil}, true},
			{map[int][]int{0: {1, 0}, 7: {1, 2}, 3: {0}}, false},
			{map[int][]int{0: {1, 0}, 7: {1, 2, 3}}, false},
			{map[int][]int{0: {1, 0}, 7: {1, 2, 2}}, false},
			{map[int][]int{0: {1, 0}, 7: {1, 1}}, false},
			{map[int][]int{0: {1, 0}, 7: {2}}, false},
			{map[int][]int{0: {1, 0}, 7: {1, -1}}, false},
			{map[int][]int{0: {1, 0}, 7: {1, math.MaxInt}}, false},
			{map[int][]int{0: {1, 0}}, false},
			{map[int][]int{}, false},
			{nil, false},
		} {
			hold(t, es, level, pass(done, x.orders), x.want)
		}
	}
}

func TestPassByWhoIsDone(t *testing.T) {
	// Nobody knows of 0, and nobody has read it; 1 was read, 2 failed, 3 only reads.
	es := history(info(w(0, 1)), endless(w(1, 2)), fail(w(2, 3)), info(r(0, 0)), ok(r(1, 2)))
	for _, level := range levels {
		with, without := map[int][]int{0: {0}, 1: {1}}, map[int][]int{1: {1}}
		hold(t, es, level, pass([]bool{true, true, false, false, true}, with), true)
		hold(t, es, level, pass([]bool{false, true, false, false, true}, without), true)
		hold(t, es, level, pass([]bool{true, true, false, false, true}, without), false)
		hold(t, es, level, pass([]bool{false, true, false, false, true}, with), false)
		for i := range 4 {
			done := []bool{true, true, false, false, true}
			done[i+1] = !done[i+1]
			hold(t, es, level, pass(done, with), false)
		}
		for _, done := range [][]bool{nil, {true, true, false, false}, {true, true, false, false, true, false}} {
			hold(t, es, level, pass(done, with), false)
		}
	}
}

// TestPassByWhatIsDoneWhen holds that the order of who may have been done counts just if it was.
func TestPassByWhatIsDoneWhen(t *testing.T) {
	es := history(ok(r(0, 0), w(1, 1)), info(w(0, 2), w(1, 3)), endless(w(2, 4)))
	for _, level := range levels {
		hold(t, es, level, pass(all(3), map[int][]int{0: {1}, 1: {0, 1}, 2: {2}}), true)
		hold(t, es, level, pass(all(3), map[int][]int{0: {1}, 1: {1, 0}, 2: {2}}), false)
		hold(t, es, level, pass([]bool{true, true, false}, map[int][]int{0: {1}, 1: {0, 1}}), true)
		hold(t, es, level, pass([]bool{true, true, false}, map[int][]int{0: {1}, 1: {1, 0}}), false)
		hold(t, es, level, pass([]bool{true, false, true}, map[int][]int{1: {0}, 2: {2}}), true)
		hold(t, es, level, pass([]bool{true, false, false}, map[int][]int{1: {0}}), true)
		hold(t, es, level, pass([]bool{false, false, false}, nil), false)
	}
}

func TestNoPassWithFlaws(t *testing.T) {
	for _, level := range levels {
		hold(t, history(ok(r(0, 7), w(1, 1))), level, pass(all(1), map[int][]int{1: {0}}), false)
		hold(t, history(fail(w(0, 5)), ok(r(0, 5))), level, pass([]bool{false, true}, nil), false)
		hold(t, history(info(w(0, 5), w(0, 6)), ok(r(0, 5))), level, pass(all(2), map[int][]int{0: {0}}), false)
	}
}

func TestAnyFlawIsShown(t *testing.T) {
	es := history(ok(w(0, 5), w(0, 6)), ok(r(0, 6), r(0, 5), r(1, 7)), fail(w(2, 8)), ok(r(2, 8), r(0, 6)))
	fs := []flaws.Flaw{{Txn: 1, Read: 1, Kind: flaws.Between}, {Txn: 1, Read: 2, Kind: flaws.Thin}, {Txn: 3, Read: 0, Kind: flaws.Aborted}}
	for _, level := range levels {
		for txn := -1; txn < 5; txn++ {
			for read := -1; read < 4; read++ {
				for kind := range flaws.Between + 2 {
					want := slices.Contains(fs, flaws.Flaw{Txn: txn, Read: read, Kind: kind})
					hold(t, es, level, flawed(txn, read, kind), want)
				}
			}
		}
		hold(t, es, level, failed([]int{0, 1}), false)
		hold(t, es, level, failed(), false)
	}
	// What is broken besides shows nothing, where there are flaws.
	es = append(skew(), api.Event{Kind: api.Invoke, Client: 3, Ops: []api.Op{r(9, 0)}}, api.Event{Kind: api.Ok, Client: 3, Ops: []api.Op{r(9, 9)}})
	hold(t, es, api.Serial, failed([]int{0, 1}), false)
	hold(t, es, api.Serial, flawed(2, 0, flaws.Thin), true)
}

// TestWhatAKindDoesntNeed lays what the other kinds need, and any number of steps, beside what shows a verdict.
func TestWhatAKindDoesntNeed(t *testing.T) {
	lost := history(ok(r(0, 0), w(0, 1)), ok(r(0, 0), w(0, 2)))
	tree := failed([]int{0, 1}).Proof.Tree
	answer := pass(all(2), map[int][]int{0: {1}, 1: {0}}).Proof
	thin := flaws.Flaw{Txn: 0, Read: 0, Kind: flaws.Thin}
	for _, steps := range []int{0, 1, 5, -3, math.MaxInt, math.MinInt} {
		v := check.Verdict{Kind: check.Pass, Steps: steps, Proof: check.Proof{Flaw: thin, Tree: tree, Done: answer.Done, Orders: answer.Orders}}
		hold(t, skew(), api.Snapshot, v, true)
		hold(t, skew(), api.Serial, v, false)
		v.Kind = check.Failed
		hold(t, skew(), api.Serial, v, true)
		hold(t, lost, api.Serial, v, true)
		hold(t, skew(), api.Snapshot, v, false)
		hold(t, history(ok(r(0, 7)), ok(r(0, 0))), api.Serial, v, true)
		v.Kind = check.Unknown
		hold(t, skew(), api.Serial, v, false)
		hold(t, skew(), api.Snapshot, v, false)
		v.Kind = check.Malformed
		hold(t, skew(), 0, v, true)
		hold(t, skew(), api.Serial, v, false)
	}
}

// bothWays is four transactions: whichever of the writes of key 3 stands ahead, one that reads it has seen what is behind.
func bothWays() []told {
	return []told{ok(w(3, 1), w(2, 3)), ok(w(3, 2), w(1, 4)), ok(r(3, 1), r(1, 4)), ok(r(3, 2), r(2, 3))}
}

func TestTrees(t *testing.T) {
	es := history(bothWays()...)
	so, not := []int{1, 2}, []int{0, 3}
	for _, x := range []struct {
		tree [][]int
		want bool
	}{
		{[][]int{nil, so, not}, true},
		{[][]int{{}, {2, 1}, {3, 0}}, true},
		{[][]int{nil, not, so}, false},
		{[][]int{nil, so, so}, false},
		{[][]int{nil, so}, false},
		{[][]int{nil}, false},
		{nil, false},
		{[][]int{nil, nil, so, not, not}, false},
		{[][]int{nil, so, not, nil}, false},
		{[][]int{nil, so, not, not}, false},
		{[][]int{nil, so, not, nil, so}, false},
		{[][]int{nil, so, not, nil, so, not}, false},
		{[][]int{nil, so, not, nil, nil, so, not}, false},
		{[][]int{so}, false},
		{[][]int{so, so, not}, false},
		{[][]int{{0}, so, not}, false},
		{[][]int{{-1}, so, not}, false},
		{[][]int{nil, so, nil}, false},
		{[][]int{nil, {1, 2, 1}, not}, false},
		{[][]int{nil, {1}, not}, false},
	} {
		hold(t, es, api.Serial, failed(x.tree...), x.want)
	}
	hold(t, es, api.Snapshot, failed(nil, []int{1}, []int{0}), true)
	hold(t, es, api.Snapshot, failed(nil, []int{0}, []int{1}), false)
	hold(t, es, api.Serial, failed(nil, []int{1}, []int{0}), false)
}

// TestTreesOfTwoChoices has a choice that is nothing to the cycles ahead of the one that is all.
func TestTreesOfTwoChoices(t *testing.T) {
	es := history(append(bothWays(), info(w(5, 5)))...)
	so, not := []int{1, 2}, []int{0, 3}
	hold(t, es, api.Serial, failed(nil, nil, so, not, nil, so, not), true)
	hold(t, es, api.Serial, failed(nil, nil, so, not, nil, not, so), false)
	hold(t, es, api.Serial, failed(nil, nil, so, not), false)
	hold(t, es, api.Serial, failed(nil, so, not), false)
	// What is found of the choice so is nothing where it isn't so.
	es = history(ok(r(0, 0), w(1, 1)), info(r(1, 0), w(0, 2)))
	hold(t, es, api.Serial, failed(nil, []int{0, 1}, nil), false)
	lost := history(ok(r(0, 0), w(0, 1)), ok(r(0, 0), w(0, 2)), info(w(0, 3)))
	hold(t, lost, api.Serial, failed([]int{0, 1}), true)
	hold(t, lost, api.Serial, failed([]int{0, 1}, nil, []int{0, 1}), false)
	// Who doesn't look at a cycle may go on.
	hold(t, lost, api.Serial, failed(nil, []int{0, 1}, []int{1, 0}), true)
	hold(t, lost, api.Serial, failed(nil, nil, []int{0, 1}, []int{0, 1}, nil, []int{0, 1}, []int{0, 1}), true)
	hold(t, lost, api.Serial, failed(nil, []int{0, 1}, nil, []int{0, 1}, []int{0, 1}), true)
	// Behind Before 0, 0, 1 not so there is no choice left, if 2 wasn't done.
	hold(t, lost, api.Serial, failed(nil, []int{0, 1}, nil, []int{0, 1}, nil, []int{0, 1}, []int{0, 1}), false)
}

// TestEachStepCounts takes any one step out of what was told.
func TestEachStepCounts(t *testing.T) {
	es := history(append(bothWays(), info(w(2, 5)))...)
	for _, level := range levels {
		v := check.Check(es, level, 1000)
		hold(t, es, level, v, true)
		if v.Kind != check.Failed || len(v.Proof.Tree) < 10 {
			t.Fatal(v)
		}
		for i := range v.Proof.Tree {
			v.Proof.Tree = slices.Delete(slices.Clone(check.Check(es, level, 1000).Proof.Tree), i, i+1)
			hold(t, es, level, v, false)
		}
	}
}

// TestTheGreatestHistory goes down as far as a tree says, and finds nothing there; one that was cut, or has too much, is refused ahead of that.
func TestTheGreatestHistory(t *testing.T) {
	var es []api.Event
	for i := range api.MaxEvents / 2 {
		var ops []api.Op
		for key := range api.MaxOps {
			ops = append(ops, w(key, 1+i*api.MaxOps+key))
		}
		client := 1 + i%api.MaxClients
		es = append(es, api.Event{Kind: api.Invoke, Client: client, Ops: ops}, api.Event{Kind: api.Info, Client: client})
	}
	const depth = 200
	cycles := make([][]int, depth)
	for range depth + 1 {
		cycles = append(cycles, []int{0, 1})
	}
	for _, level := range levels {
		hold(t, es, level, pass(make([]bool, len(es)/2), nil), true)
		if Holds(es, level, failed(cycles...)) {
			t.Error("a tree whose cycles are none")
		}
		for _, n := range []int{1, 2, 1 << 20} {
			if Holds(es, level, failed(make([][]int, n)...)) || Holds(es, level, failed(append(make([][]int, n), cycles...)...)) {
				t.Error("a tree that was cut", n)
			}
			if Holds(es, level, failed(append(slices.Clone(cycles), make([][]int, n)...)...)) {
				t.Error("a tree that has more", n)
			}
		}
	}
}

// TestADeepSearch is shown as it was told, of many writers of a key.
func TestADeepSearch(t *testing.T) {
	var es []api.Event
	const n = 30
	for i := range n {
		ops := []api.Op{r(0, i), w(0, i+1)}
		es = append(es, api.Event{Kind: api.Invoke, Client: 1, Ops: asked(ops)}, api.Event{Kind: api.Ok, Client: 1, Ops: ops})
	}
	hold(t, es, api.Serial, check.Check(es, api.Serial, math.MaxInt), true)
	ops := []api.Op{r(0, n), r(0, n/2)}
	es = append(es, api.Event{Kind: api.Invoke, Client: 1, Ops: asked(ops)}, api.Event{Kind: api.Ok, Client: 1, Ops: ops})
	for _, level := range levels {
		v := check.Check(es, level, math.MaxInt)
		hold(t, es, level, v, true)
		if v.Kind != check.Failed || v.Steps < n {
			t.Error("no long search", v.Kind, v.Steps)
		}
	}
}

func TestHoldsChangesNothing(t *testing.T) {
	for _, x := range []struct {
		es []api.Event
		v  check.Verdict
	}{
		{history(bothWays()...), failed(nil, []int{1, 2}, []int{0, 3})},
		{skew(), pass(all(2), map[int][]int{0: {1}, 1: {0}})},
		{history(ok(r(0, 7))), flawed(0, 0, flaws.Thin)},
	} {
		es := slices.Clone(x.es)
		for i := range es {
			es[i].Ops = append(slices.Clone(es[i].Ops), w(9, 9))[:len(es[i].Ops)]
		}
		v := roomy(x.v)
		for _, level := range levels {
			Holds(es, level, v)
		}
		if !reflect.DeepEqual(v, x.v) || !reflect.DeepEqual(es, x.es) || !roomStands(v) {
			t.Error("changed:", es, v)
		}
		for i := range es {
			if ops := es[i].Ops; ops[:len(ops)+1][len(ops)] != w(9, 9) {
				t.Error("the room behind a list's end is changed", es)
			}
		}
	}
}

// roomy is a verdict with room behind each list, in which something stands.
func roomy(v check.Verdict) check.Verdict {
	more := func(l []int) []int {
		if l == nil {
			return nil
		}
		return append(slices.Clone(l), -77)[:len(l)]
	}
	p := &v.Proof
	if p.Tree != nil {
		p.Tree = append(slices.Clone(p.Tree), check.Node{Cycle: []int{-77}})[:len(p.Tree)]
	}
	for i, n := range p.Tree {
		p.Tree[i].Cycle = more(n.Cycle)
	}
	if p.Done != nil {
		p.Done = append(slices.Clone(p.Done), true)[:len(p.Done)]
	}
	p.Orders = maps.Clone(p.Orders)
	for key, l := range p.Orders {
		p.Orders[key] = more(l)
	}
	return v
}

// roomStands tells whether what stands in the room of a roomy verdict is still there.
func roomStands(v check.Verdict) bool {
	stands := func(l []int) bool { return l == nil || l[:len(l)+1][len(l)] == -77 }
	p := v.Proof
	good := p.Tree == nil || stands(p.Tree[:len(p.Tree)+1][len(p.Tree)].Cycle[:0])
	good = good && (p.Done == nil || p.Done[:len(p.Done)+1][len(p.Done)])
	for _, n := range p.Tree {
		good = good && stands(n.Cycle)
	}
	for _, l := range p.Orders {
		good = good && stands(l)
	}
	return good
}
