package check

import (
	"maps"
	"math"
	"math/rand"
	"slices"
	"testing"

	"crucible/api"
	"crucible/chains"
	"crucible/deps"
	"crucible/flaws"
	"crucible/hist"
)

// modelSearch is the steps of a search from some facts on, each with its cycle, and the facts that it has found, if it has; it doesn't count them.
func modelSearch(ts []api.Txn, f chains.Facts, level int) ([]Node, chains.Facts, bool) {
	cycle := deps.Broken(ts, f, level)
	steps := []Node{{Cycle: cycle}}
	if len(cycle) > 0 {
		return steps, nil, false
	}
	c, open := chains.Next(ts, f)
	if !open {
		return steps, f, true
	}
	more, found, ends := modelSearch(ts, f.With(c, true), level)
	steps = append(steps, more...)
	if !ends {
		more, found, ends = modelSearch(ts, f.With(c, false), level)
		steps = append(steps, more...)
	}
	return steps, found, ends
}

// modelCheck is a verdict by the chapter's words, at each budget from 0 on up to its steps and one more.
func modelCheck(es []api.Event, level int) []Verdict {
	ts, _, e := hist.Of(es)
	if e != api.OK {
		return []Verdict{{}, {}}
	}
	if fs := flaws.All(ts); len(fs) > 0 {
		v := Verdict{Kind: Failed, Proof: Proof{Flaw: fs[0]}}
		return []Verdict{v, v}
	}
	steps, f, ends := modelSearch(ts, chains.Facts{}, level)
	var vs []Verdict
	for budget := range steps {
		vs = append(vs, Verdict{Kind: Unknown, Steps: budget})
	}
	v := Verdict{Kind: Failed, Steps: len(steps), Proof: Proof{Tree: steps}}
	if ends {
		v = Verdict{Kind: Pass, Steps: len(steps), Proof: Proof{Done: make([]bool, len(ts)), Orders: map[int][]int{}}}
		for i := range ts {
			v.Proof.Done[i], _ = chains.Is(ts, f, i)
			for _, op := range hist.Writes(ts[i]) {
				if v.Proof.Done[i] {
					v.Proof.Orders[op.Key], _ = chains.Chain(ts, f, op.Key)
				}
			}
		}
	}
	return append(vs, v, v)
}

// fits tells whether a transaction that is told to be done reads what it was told to, upon a state.
func fits(t api.Txn, state map[int]int) bool {
	own := maps.Clone(state)
	for _, op := range t.Ops {
		if op.Kind == api.Write {
			own[op.Key] = op.Val
		} else if t.State == api.Done && own[op.Key] != op.Val {
			return false
		}
	}
	return true
}

// behind is a state behind a transaction's writes.
func behind(t api.Txn, state map[int]int) map[int]int {
	next := maps.Clone(state)
	for _, op := range hist.Writes(t) {
		next[op.Key] = op.Val
	}
	return next
}

// mayCommit tells whether nobody has written, since a state, what a transaction writes.
func mayCommit(t api.Txn, from, now map[int]int) bool {
	for _, op := range hist.Writes(t) {
		if from[op.Key] != now[op.Key] {
			return false
		}
	}
	return true
}

// canBe tells whether all transactions that were done can have been, one behind the other, and the open ones or not: each upon the state that it finds; at Snapshot upon any ahead of that, since which nobody has written what it writes.
func canBe(ts []api.Txn, level int, placed []int, states []map[int]int) bool {
	left := 0
	now := states[len(states)-1]
	for i, t := range ts {
		if slices.Contains(placed, i) || t.State == api.Gone {
			continue
		}
		if t.State == api.Done {
			left++
		}
		from := states[len(states)-1:]
		if level == api.Snapshot {
			from = states
		}
		can := slices.ContainsFunc(from, func(s map[int]int) bool { return fits(t, s) && mayCommit(t, s, now) })
		if can && canBe(ts, level, append(slices.Clone(placed), i), append(slices.Clone(states), behind(t, now))) {
			return true
		}
	}
	return left == 0
}

func modelKeeps(es []api.Event, level int) bool {
	ts, _, _ := hist.Of(es)
	return canBe(ts, level, nil, []map[int]int{{}})
}

// shown is how many of the steps show, of facts, that no facts behind them are an answer; 0: they don't.
func shown(ts []api.Txn, f chains.Facts, level int, tree []Node) int {
	if len(tree) == 0 {
		return 0
	}
	if cycle := tree[0].Cycle; len(cycle) > 0 {
		if !slices.Equal(cycle, deps.Broken(ts, f, level)) {
			return 0
		}
		return 1
	}
	c, open := chains.Next(ts, f)
	if !open {
		return 0
	}
	so := shown(ts, f.With(c, true), level, tree[1:])
	if so == 0 {
		return 0
	}
	not := shown(ts, f.With(c, false), level, tree[1+so:])
	if not == 0 {
		return 0
	}
	return 1 + so + not
}

// holdProof holds that the proof of a verdict shows it.
func holdProof(t *testing.T, es []api.Event, level int, v Verdict) {
	t.Helper()
	ts, _, _ := hist.Of(es)
	p := v.Proof
	switch v.Kind {
	case Pass:
		f, fixed := chains.Fix(ts, p.Done, p.Orders)
		if !fixed || len(deps.Broken(ts, f, level)) > 0 || len(flaws.All(ts)) > 0 || len(p.Tree) > 0 || p.Flaw != (flaws.Flaw{}) {
			t.Errorf("%v, %d: %v shows no Pass", es, level, v)
		}
	case Failed:
		if len(p.Done) > 0 || len(p.Orders) > 0 {
			t.Errorf("%v, %d: %v has an answer", es, level, v)
		}
		flawed := slices.Contains(flaws.All(ts), p.Flaw)
		if !flawed && (shown(ts, nil, level, p.Tree) != len(p.Tree) || len(p.Tree) == 0 || v.Steps != len(p.Tree)) {
			t.Errorf("%v, %d: %v shows no Failed", es, level, v)
		}
	default:
		t.Errorf("%v, %d: %v", es, level, v)
	}
}

// drawnTxns is transactions that clients ask for; each value is written once.
func drawnTxns(source *rand.Rand, most int) []told {
	txns := make([]told, most-min(source.Intn(most+1), source.Intn(most+1)))
	keys, val := source.Intn(3)+1, 0
	for i := range txns {
		txns[i].kind = []int{api.Ok, api.Ok, api.Ok, api.Ok, api.Ok, api.Ok, api.Ok, api.Info, api.Fail, 0}[source.Intn(10)]
		for range source.Intn(3) + 1 {
			key := source.Intn(keys) * 7
			if source.Intn(3) > 0 {
				txns[i].ops = append(txns[i].ops, r(key, 0))
			}
			if source.Intn(2) == 0 || len(txns[i].ops) == 0 {
				val++
				txns[i].ops = append(txns[i].ops, w(key, val))
			}
		}
	}
	return txns
}

// readAnything lets all that are done read what somebody writes to the key, or 0; what they wrote themselves, if they did.
func readAnything(source *rand.Rand, txns []told) {
	for i, x := range txns {
		own := map[int]int{}
		for at, op := range x.ops {
			if op.Kind == api.Write {
				own[op.Key] = op.Val
				continue
			}
			vals := []int{0}
			for j, other := range txns {
				for _, o := range other.ops {
					good := j != i && other.kind != api.Fail
					if o.Kind == api.Write && o.Key == op.Key && (good || source.Intn(20) == 0) {
						vals = append(vals, o.Val)
					}
				}
			}
			if val, wrote := own[op.Key]; wrote {
				vals = []int{val}
			}
			x.ops[at].Val = vals[source.Intn(len(vals))]
		}
	}
}

// readByRun lets all that are done read as if they were run one behind the other, upon what stands, or stood some time ahead; firm: those are told to fail that write what another one has written since.
func readByRun(source *rand.Rand, txns []told, firm bool) {
	states := []map[int]int{{}}
	for _, i := range source.Perm(len(txns)) {
		now := states[len(states)-1]
		from := states[max(0, len(states)-1-source.Intn(3))]
		t := api.Txn{State: api.Open, Ops: txns[i].ops}
		if firm && !mayCommit(t, from, now) {
			txns[i].kind = api.Fail
		}
		own := maps.Clone(from)
		for at, op := range t.Ops {
			if op.Kind == api.Write {
				own[op.Key] = op.Val
			}
			t.Ops[at].Val = own[op.Key]
		}
		if txns[i].kind != api.Fail {
			states = append(states, behind(t, now))
		}
	}
}

// drawn is a history: the transactions have few clients or many, and what they are told comes when it comes.
func drawn(source *rand.Rand, most int) []api.Event {
	txns := drawnTxns(source, most)
	if source.Intn(3) == 0 {
		readAnything(source, txns)
	} else {
		readByRun(source, txns, source.Intn(2) == 0)
	}
	var es []api.Event
	var ends []api.Event
	for i, x := range txns {
		es = append(es, api.Event{Kind: api.Invoke, Client: i + 1, Ops: asked(x.ops)})
		switch x.kind {
		case api.Ok:
			ends = append(ends, api.Event{Kind: api.Ok, Client: i + 1, Ops: x.ops})
		case api.Fail, api.Info:
			ends = append(ends, api.Event{Kind: x.kind, Client: i + 1})
		}
		for len(ends) > 0 && source.Intn(2) == 0 {
			at := source.Intn(len(ends))
			es = append(es, ends[at])
			ends = slices.Delete(ends, at, at+1)
		}
	}
	return append(es, ends...)
}

func TestDrawnOnesAsTheChapterSays(t *testing.T) {
	source := rand.New(rand.NewSource(11))
	longest := 0
	for range 1500 {
		es := drawn(source, 5)
		for _, level := range levels {
			vs := modelCheck(es, level)
			for budget, want := range vs {
				// All budgets of a long search take long: some of them, and the last ones, do.
				if budget < 10 || budget > len(vs)-4 || source.Intn(20) == 0 {
					hold(t, es, level, budget, want)
				}
			}
			hold(t, es, level, math.MaxInt, vs[len(vs)-1])
			longest = max(longest, len(vs))
		}
		if t.Failed() {
			return
		}
	}
	if longest < 50 {
		t.Error("no long search:", longest)
	}
}

// TestWhatIsToldIsRight asks of drawn histories, in quite another way, whether they keep a level; all are told in Bound's steps.
func TestWhatIsToldIsRight(t *testing.T) {
	source := rand.New(rand.NewSource(12))
	count := map[int]int{}
	for range 6000 {
		es := drawn(source, 6)
		ts, _, e := hist.Of(es)
		if e != api.OK {
			t.Fatal("no history", es, e)
		}
		if len(chains.Choices(ts)) >= 40 {
			continue
		}
		keeps := map[int]bool{}
		for _, level := range levels {
			v := Check(es, level, chains.Bound(ts))
			holdProof(t, es, level, v)
			keeps[level] = modelKeeps(es, level)
			if (v.Kind == Pass) != keeps[level] {
				t.Errorf("%v, level %d: %v, keeps it: %v", es, level, v, keeps[level])
			}
			count[3*level+v.Kind]++
		}
		if keeps[api.Serial] && Check(es, api.Snapshot, chains.Bound(ts)).Kind != Pass {
			t.Errorf("%v keeps Serial, but not Snapshot", es)
		}
		if keeps[api.Snapshot] && !keeps[api.Serial] {
			count[0]++
		}
		if t.Failed() {
			return
		}
	}
	for _, level := range levels {
		if count[3*level+Pass] < 1000 || count[3*level+Failed] < 1000 {
			t.Error("too few of a kind:", count)
		}
	}
	if count[0] < 30 {
		t.Error("too few that Serial alone forbids:", count)
	}
}

// TestAllOfTwo goes through all pairs of transactions of two operations on two keys, which read 0, or what is written there: by the other one, or by itself.
func TestAllOfTwo(t *testing.T) {
	var halves [][]api.Op
	ops := []api.Op{r(0, 0), r(0, 1), r(0, 2), r(1, 0), r(1, 1), r(1, 2), w(0, 1), w(1, 1)}
	for _, a := range ops {
		for _, b := range ops {
			if a.Kind == api.Write && b.Kind == api.Write {
				b.Val = 2
			}
			halves = append(halves, []api.Op{a, b})
		}
	}
	n := 0
	for _, a := range halves {
		for _, b := range halves {
			for kind := range api.Info + 1 {
				if kind == api.Invoke {
					continue
				}
				es := history(told{kind, a}, ok(other(b)...))
				if _, _, e := hist.Of(es); e != api.OK {
					hold(t, es, api.Serial, 100, Verdict{})
					continue
				}
				n++
				for _, level := range levels {
					if v := Check(es, level, 100); (v.Kind == Pass) != modelKeeps(es, level) || v.Kind == Unknown || v.Kind == Malformed {
						t.Fatalf("%v, level %d: %v", es, level, v)
					}
				}
			}
		}
	}
	if n < 3000 {
		t.Error("too few:", n)
	}
}

// other is operations where what is written are 3 and 4, so that each value is written once.
func other(ops []api.Op) []api.Op {
	ops = slices.Clone(ops)
	for i, op := range ops {
		if op.Kind == api.Write {
			ops[i].Val = op.Val + 2
		}
	}
	return ops
}

// TestBoundsSteps takes just as many steps as Bound says: one less tells nothing.
func TestBoundsSteps(t *testing.T) {
	for opens := range 6 {
		txns := bothWays()
		for i := range opens {
			txns = append(txns, info(w(5+i, 5+i)))
		}
		es := history(txns...)
		ts, _, _ := hist.Of(es)
		bound := chains.Bound(ts)
		for _, level := range levels {
			v := Check(es, level, bound)
			if v.Kind != Failed || v.Steps != bound {
				t.Errorf("%d open, level %d: %d in %d steps", opens, level, v.Kind, v.Steps)
			}
			hold(t, es, level, bound-1, Verdict{Kind: Unknown, Steps: bound - 1})
		}
	}
}

// TestAnythingEnds hands in events that are none, or make no history.
func TestAnythingEnds(t *testing.T) {
	source := rand.New(rand.NewSource(13))
	around := func(most int) int { return source.Intn(most+3) - 1 }
	for range 5000 {
		es := drawn(source, 4)
		for range source.Intn(3) {
			ev := api.Event{Kind: around(api.Info), Client: around(4)}
			for range source.Intn(4) {
				ev.Ops = append(ev.Ops, api.Op{Kind: around(api.Write), Key: around(api.MaxKeys), Val: around(9)})
			}
			es = slices.Insert(es, source.Intn(len(es)+1), ev)
		}
		level := source.Intn(4)
		v := Check(es, level, source.Intn(30)-2)
		_, _, e := hist.Of(es)
		if wrong := e != api.OK || level == 0 || level == 3; wrong != (v.Kind == Malformed) || wrong && !sameVerdict(v, Verdict{}) {
			t.Fatalf("Check(%v, %d): %v, of %d", es, level, v, e)
		}
	}
}

// TestTheGreatestHistory has as many choices as there may be, and begins to look at them.
func TestTheGreatestHistory(t *testing.T) {
	var es []api.Event
	for i := range api.MaxEvents / 2 {
		var ops []api.Op
		for key := range api.MaxOps {
			ops = append(ops, w(key, 1+i*api.MaxOps+key))
		}
		ev := api.Event{Kind: api.Invoke, Client: 1 + i%api.MaxClients, Ops: ops}
		es = append(es, ev, api.Event{Kind: api.Info, Client: ev.Client})
	}
	for _, level := range levels {
		hold(t, es, level, 0, Verdict{Kind: Unknown})
		hold(t, es, level, 300, Verdict{Kind: Unknown, Steps: 300})
	}
}

// TestADeepSearch goes far down, and says one order of many.
func TestADeepSearch(t *testing.T) {
	var es []api.Event
	var order []int
	const n = 50
	for i := range n {
		ops := []api.Op{r(0, i), w(0, i+1)}
		es = append(es, api.Event{Kind: api.Invoke, Client: 1, Ops: asked(ops)}, api.Event{Kind: api.Ok, Client: 1, Ops: ops})
		order = append(order, i)
	}
	for _, level := range levels {
		hold(t, es, level, math.MaxInt, pass(1+n*(n-1)/2, all(n), map[int][]int{0: order}))
	}
	es[2*n-1].Ops[0].Val = 0
	if v := Check(es, api.Serial, math.MaxInt); v.Kind != Failed || v.Steps != len(v.Proof.Tree) {
		t.Error("one that reads what stood at first", v.Kind, v.Steps)
	}
}
