package check

import (
	"maps"
	"math"
	"reflect"
	"slices"
	"testing"

	"crucible/api"
	"crucible/flaws"
)

func r(key, val int) api.Op { return api.Op{Kind: api.Read, Key: key, Val: val} }
func w(key, val int) api.Op { return api.Op{Kind: api.Write, Key: key, Val: val} }

// asked is the operations as a client asks for them: it has read nothing yet.
func asked(ops []api.Op) []api.Op {
	ops = slices.Clone(ops)
	for i, op := range ops {
		if op.Kind == api.Read {
			ops[i].Val = 0
		}
	}
	return ops
}

// told is a transaction and how it ends: api.Ok, Fail or Info; 0: it doesn't.
type told struct {
	kind int
	ops  []api.Op
}

func ok(ops ...api.Op) told      { return told{api.Ok, ops} }
func fail(ops ...api.Op) told    { return told{api.Fail, ops} }
func info(ops ...api.Op) told    { return told{api.Info, ops} }
func endless(ops ...api.Op) told { return told{0, ops} }

// history has a client for each transaction: all begin, then all end.
func history(txns ...told) []api.Event {
	var es []api.Event
	for i, x := range txns {
		es = append(es, api.Event{Kind: api.Invoke, Client: i + 1, Ops: asked(x.ops)})
	}
	for i, x := range txns {
		switch x.kind {
		case api.Ok:
			es = append(es, api.Event{Kind: api.Ok, Client: i + 1, Ops: slices.Clone(x.ops)})
		case api.Fail, api.Info:
			es = append(es, api.Event{Kind: x.kind, Client: i + 1})
		}
	}
	return es
}

// sameVerdict: an empty list, or map, is as good as none.
func sameVerdict(a, b Verdict) bool {
	sameNode := func(a, b Node) bool { return slices.Equal(a.Cycle, b.Cycle) }
	p, q := a.Proof, b.Proof
	return a.Kind == b.Kind && a.Steps == b.Steps && p.Flaw == q.Flaw && slices.EqualFunc(p.Tree, q.Tree, sameNode) &&
		slices.Equal(p.Done, q.Done) && maps.EqualFunc(p.Orders, q.Orders, slices.Equal[[]int])
}

func hold(t *testing.T, es []api.Event, level, budget int, want Verdict) {
	t.Helper()
	if got := Check(es, level, budget); !sameVerdict(got, want) {
		t.Errorf("Check(%v, %d, %d): %v, want %v", es, level, budget, got, want)
	}
}

// holdAtAll holds a verdict of a search at all budgets: with fewer steps than it takes it is Unknown.
func holdAtAll(t *testing.T, es []api.Event, level int, want Verdict) {
	t.Helper()
	for budget := range want.Steps {
		hold(t, es, level, budget, Verdict{Kind: Unknown, Steps: budget})
	}
	for _, budget := range []int{-1, math.MinInt} {
		hold(t, es, level, budget, Verdict{Kind: Unknown})
	}
	for _, budget := range []int{want.Steps, want.Steps + 1, math.MaxInt} {
		hold(t, es, level, budget, want)
	}
}

func pass(steps int, done []bool, orders map[int][]int) Verdict {
	return Verdict{Kind: Pass, Steps: steps, Proof: Proof{Done: done, Orders: orders}}
}

// failed is a verdict by the cycles of its steps.
func failed(cycles ...[]int) Verdict {
	v := Verdict{Kind: Failed, Steps: len(cycles)}
	for _, c := range cycles {
		v.Proof.Tree = append(v.Proof.Tree, Node{Cycle: c})
	}
	return v
}

func flawed(txn, read, kind int) Verdict {
	return Verdict{Kind: Failed, Proof: Proof{Flaw: flaws.Flaw{Txn: txn, Read: read, Kind: kind}}}
}

// all is a list of so many trues.
func all(n int) []bool { return slices.Repeat([]bool{true}, n) }

var levels = []int{api.Serial, api.Snapshot}

func TestTheDocumentsExample(t *testing.T) {
	es := history(ok(r(0, 0), w(1, 1)), ok(r(1, 0), w(0, 2)))
	holdAtAll(t, es, api.Serial, failed([]int{0, 1}))
	holdAtAll(t, es, api.Snapshot, pass(1, all(2), map[int][]int{0: {1}, 1: {0}}))
}

func TestNoEvents(t *testing.T) {
	for _, level := range levels {
		holdAtAll(t, nil, level, pass(1, nil, nil))
		holdAtAll(t, []api.Event{}, level, pass(1, nil, nil))
	}
}

func TestMalformed(t *testing.T) {
	good := history(ok(r(0, 0), w(0, 1)))
	thin := history(ok(r(0, 7)))
	for _, level := range []int{0, 3, -1, math.MaxInt, math.MinInt} {
		for _, budget := range []int{math.MinInt, 0, 1, math.MaxInt} {
			hold(t, nil, level, budget, Verdict{})
			hold(t, good, level, budget, Verdict{})
			hold(t, thin, level, budget, Verdict{})
		}
	}
	many := slices.Repeat(good, api.MaxEvents/2+1)
	alone := api.Event{Kind: api.Ok, Client: 1, Ops: []api.Op{r(0, 0)}}
	wrong := [][]api.Event{
		many,
		{{}},
		{alone},
		{{Kind: api.Invoke, Client: 1}},
		{{Kind: api.Invoke, Client: api.MaxClients + 1, Ops: []api.Op{r(0, 0)}}},
		{{Kind: api.Invoke, Client: 1, Ops: []api.Op{r(0, 1)}}},
		{{Kind: api.Info, Client: 1}},
		append(slices.Clone(good), alone),
		history(ok(w(0, 1)), ok(w(1, 1))),
		history(ok(w(0, 1), r(0, 0))),
		append(history(endless(w(0, 1))), api.Event{Kind: api.Fail, Client: 1, Ops: []api.Op{w(0, 1)}}),
		append(history(endless(w(0, 1))), api.Event{Kind: api.Ok, Client: 1, Ops: []api.Op{w(0, 2)}}),
		// A flaw ahead of it is nothing to it.
		append(slices.Clone(thin), alone),
	}
	for _, es := range wrong {
		for _, level := range []int{api.Serial, api.Snapshot, 0} {
			for _, budget := range []int{-1, 0, 1, math.MaxInt} {
				hold(t, es, level, budget, Verdict{})
			}
		}
	}
}

func TestFlaws(t *testing.T) {
	of := func(want Verdict, txns ...told) {
		t.Helper()
		for _, level := range levels {
			for _, budget := range []int{math.MinInt, -1, 0, 1, math.MaxInt} {
				hold(t, history(txns...), level, budget, want)
			}
		}
	}
	of(flawed(0, 0, flaws.Thin), ok(r(0, 7)))
	of(flawed(0, 1, flaws.Thin), ok(r(1, 0), r(0, 1), w(0, 1)))
	of(flawed(1, 0, flaws.Aborted), fail(w(0, 5)), ok(r(0, 5)))
	of(flawed(1, 1, flaws.Between), info(w(0, 5), w(0, 6)), ok(r(0, 0), r(0, 5)))
	// The first one of many, in the order of the transactions and of their reads.
	of(flawed(1, 1, flaws.Between), ok(w(0, 5), w(0, 6)), ok(r(0, 6), r(0, 5), r(1, 7)), fail(w(2, 8)), ok(r(2, 8)), ok(r(3, 9)))
	// What is broken besides isn't looked for.
	of(flawed(2, 0, flaws.Thin), ok(r(0, 0), w(0, 1)), ok(r(0, 0), w(0, 2)), ok(r(9, 9)))
}

func TestNoFlaws(t *testing.T) {
	for _, level := range levels {
		// Who isn't told that it was done has read nothing.
		holdAtAll(t, history(fail(r(0, 0), w(0, 1)), info(r(0, 0)), endless(r(1, 0))), level, pass(1, make([]bool, 3), nil))
		holdAtAll(t, history(ok(r(0, 0)), ok(r(0, 0), r(15, 0))), level, pass(1, all(2), nil))
		// One reads what it has written itself.
		holdAtAll(t, history(ok(w(0, 1), r(0, 1), w(0, 2), r(0, 2))), level, pass(1, all(1), map[int][]int{0: {0}}))
	}
}

func TestWhatNobodyKnows(t *testing.T) {
	for _, level := range levels {
		// What may have been done is taken to be so first.
		holdAtAll(t, history(info(w(3, 1))), level, pass(2, all(1), map[int][]int{3: {0}}))
		holdAtAll(t, history(endless(w(3, 1), w(15, 2))), level, pass(2, all(1), map[int][]int{3: {0}, 15: {0}}))
		// What somebody has read was done: there is no choice.
		holdAtAll(t, history(info(w(0, 1)), ok(r(0, 1))), level, pass(1, all(2), map[int][]int{0: {0}}))
		holdAtAll(t, history(ok(r(0, 1)), endless(r(1, 0), w(0, 1))), level, pass(1, all(2), map[int][]int{0: {1}}))
		// Where it was done, the orders are open; where it failed, there is nothing to choose.
		holdAtAll(t, history(info(w(0, 1)), ok(w(0, 2)), fail(w(0, 3)), info(r(0, 0))), level,
			pass(3, []bool{true, true, false, false}, map[int][]int{0: {0, 1}}))
	}
}

func TestOrders(t *testing.T) {
	for _, level := range levels {
		holdAtAll(t, history(ok(w(0, 1)), ok(w(0, 2)), ok(w(0, 3))), level, pass(4, all(3), map[int][]int{0: {0, 1, 2}}))
		// It goes back once: who reads a write stands behind it.
		holdAtAll(t, history(ok(r(0, 2), w(0, 1)), ok(w(0, 2))), level, pass(3, all(2), map[int][]int{0: {1, 0}}))
		// Each key has an order of its own, of those alone that write it.
		holdAtAll(t, history(ok(w(7, 1)), ok(w(2, 2), w(7, 3)), ok(w(2, 4), r(7, 0))), level,
			pass(4, all(3), map[int][]int{2: {2, 1}, 7: {0, 1}}))
	}
}

// TestWhoIsRead holds what a search finds of three that write one key, as the reads of two others say.
func TestWhoIsRead(t *testing.T) {
	es := history(ok(r(0, 3), w(0, 1)), ok(r(0, 1), w(0, 2)), ok(w(0, 3)))
	for _, level := range levels {
		// Before of 0 and 1 so; of 0 and 2 so: a cycle; not so; of 1 and 2 so: a cycle; not so.
		holdAtAll(t, es, level, pass(6, all(3), map[int][]int{0: {2, 0, 1}}))
	}
}

// bothWays is four transactions: whichever of the writes of key 3 stands ahead, one that reads it has seen what is behind.
func bothWays() []told {
	return []told{ok(w(3, 1), w(2, 3)), ok(w(3, 2), w(1, 4)), ok(r(3, 1), r(1, 4)), ok(r(3, 2), r(2, 3))}
}

func TestTrees(t *testing.T) {
	// All choices, so and not so: the greatest tree.
	holdAtAll(t, history(bothWays()...), api.Serial, failed(nil, []int{1, 2}, []int{0, 3}))
	holdAtAll(t, history(bothWays()...), api.Snapshot, failed(nil, []int{1}, []int{0}))
	one := append(bothWays(), info(w(5, 5)))
	holdAtAll(t, history(one...), api.Serial, failed(nil, nil, []int{1, 2}, []int{0, 3}, nil, []int{1, 2}, []int{0, 3}))
	holdAtAll(t, history(one...), api.Snapshot, failed(nil, nil, []int{1}, []int{0}, nil, []int{1}, []int{0}))
	// Where one wasn't done, there is nothing between it and the others.
	one[4] = info(w(2, 5))
	holdAtAll(t, history(one...), api.Serial, failed(nil, nil, nil, []int{1, 2}, []int{0, 3}, nil, []int{1, 2}, []int{0, 3}, nil, []int{1, 2}, []int{0, 3}))
	holdAtAll(t, history(one...), api.Snapshot, failed(nil, nil, nil, []int{1}, []int{0}, nil, []int{1}, []int{0}, nil, []int{1}, []int{0}))
	// A lost update is one by either order at Snapshot, and ahead of any at Serial.
	lost := history(ok(r(0, 0), w(0, 1)), ok(r(0, 0), w(0, 2)))
	holdAtAll(t, lost, api.Serial, failed([]int{0, 1}))
	holdAtAll(t, lost, api.Snapshot, failed(nil, []int{0}, []int{1}))
}

func TestWhatALevelForbids(t *testing.T) {
	for _, x := range []struct {
		name             string
		txns             []told
		serial, snapshot int
	}{
		{"one after the other", []told{ok(r(0, 0), w(0, 1)), ok(r(0, 1), w(0, 2)), ok(r(0, 2))}, Pass, Pass},
		{"half of another one's writes", []told{ok(w(0, 1), w(1, 2)), ok(r(0, 1), r(1, 0))}, Failed, Failed},
		{"all or none of them", []told{ok(w(0, 1), w(1, 2)), ok(r(0, 1), r(1, 2)), ok(r(0, 0), r(1, 0))}, Pass, Pass},
		{"two reads of one key that differ", []told{ok(w(0, 1)), ok(r(0, 0), r(0, 1))}, Failed, Failed},
		{"each reads the other", []told{ok(r(0, 2), w(1, 1)), ok(r(1, 1), w(0, 2))}, Failed, Failed},
		{"two writes in unlike orders", []told{ok(w(0, 1)), ok(w(1, 2)), ok(r(0, 1), r(1, 0)), ok(r(0, 0), r(1, 2))}, Failed, Failed},
		{"one that reads ahead of both of two that skew", []told{ok(r(0, 0), r(1, 0), w(0, 1)), ok(r(0, 0), r(1, 0), w(1, 2)), ok(r(0, 1), r(1, 0))}, Failed, Pass},
		{"three that skew in a ring", []told{ok(r(0, 0), w(1, 1)), ok(r(1, 0), w(2, 2)), ok(r(2, 0), w(0, 3))}, Failed, Pass},
		{"two that skew by one that nobody knows of", []told{info(r(0, 0), w(1, 1)), ok(r(1, 0), w(0, 2))}, Pass, Pass},
		{"written twice, read between", []told{ok(w(0, 1)), ok(r(0, 1), w(0, 2)), ok(r(0, 1), w(0, 3))}, Failed, Failed},
	} {
		es := history(x.txns...)
		if got := Check(es, api.Serial, 1000).Kind; got != x.serial {
			t.Errorf("%s: Serial: %d, want %d", x.name, got, x.serial)
		}
		if got := Check(es, api.Snapshot, 1000).Kind; got != x.snapshot {
			t.Errorf("%s: Snapshot: %d, want %d", x.name, got, x.snapshot)
		}
	}
}

func TestWhenTheyBeganIsNothing(t *testing.T) {
	// The second one begins behind the end of the first one, and yet reads what stood ahead of that.
	es := append(history(ok(w(0, 1))), history(ok(r(0, 0)))...)
	for _, level := range levels {
		holdAtAll(t, es, level, pass(1, all(2), map[int][]int{0: {0}}))
	}
}

// lists is all lists of an answer.
func lists(v Verdict) [][]int {
	var ls [][]int
	for _, n := range v.Proof.Tree {
		ls = append(ls, n.Cycle)
	}
	for _, key := range slices.Sorted(maps.Keys(v.Proof.Orders)) {
		ls = append(ls, v.Proof.Orders[key])
	}
	return ls
}

func TestNothingIsSharedOrChanged(t *testing.T) {
	good := func() []told {
		return []told{ok(w(0, 1), w(1, 2)), info(w(0, 3), w(1, 4)), ok(r(0, 1), w(1, 5))}
	}
	bad := func() []told { return append(bothWays(), info(w(2, 5))) }
	for _, txns := range []func() []told{good, bad} {
		for _, level := range levels {
			// Behind the end of each list there is room, in which something stands.
			es := append(history(txns()...), api.Event{Kind: api.Fail, Client: 9})
			for i := range es {
				es[i].Ops = append(es[i].Ops, w(9, 9))[:len(es[i].Ops)]
			}
			was := Check(es[:len(es)-1], level, 1000)
			v := Check(es[:len(es)-1], level, 1000)
			if !sameVerdict(was, v) || len(lists(v)) < 2 {
				t.Fatal("two answers to one question", was, v)
			}
			holdUnshared(t, v)
			clear(v.Proof.Tree[:cap(v.Proof.Tree)])
			clear(v.Proof.Done[:cap(v.Proof.Done)])
			clear(v.Proof.Orders)
			for i := range es[:len(es)-1] {
				if ops := es[i].Ops; ops[:len(ops)+1][len(ops)] != w(9, 9) {
					t.Error("the room behind a list's end is changed", ops[:len(ops)+1])
				}
			}
			if !reflect.DeepEqual(es[len(es)-1], api.Event{Kind: api.Fail, Client: 9, Ops: []api.Op{}}) {
				t.Error("the room behind the events is changed", es)
			}
			hold(t, es[:len(es)-1], level, 1000, was)
			for _, ev := range es {
				clear(ev.Ops)
			}
			clear(es)
			hold(t, history(txns()...), level, 1000, was)
		}
	}
}

// holdUnshared overwrites each list of an answer, and its room, and looks whether another one is changed by that.
func holdUnshared(t *testing.T, v Verdict) {
	t.Helper()
	ls := lists(v)
	for i, l := range ls {
		var others [][]int
		for j, o := range ls {
			if j != i {
				others = append(others, slices.Clone(o))
			}
		}
		for at := range l[:cap(l)] {
			l[:cap(l)][at] = -7
		}
		for j, o := range slices.Delete(slices.Clone(ls), i, i+1) {
			if !slices.Equal(o, others[j]) {
				t.Error("two lists of one answer share memory", v)
			}
		}
	}
}
