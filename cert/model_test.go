package cert

import (
	"maps"
	"math/rand"
	"slices"
	"testing"

	"crucible/api"
	"crucible/chains"
	"crucible/check"
	"crucible/deps"
	"crucible/flaws"
	"crucible/graph"
	"crucible/hist"
)

// isCycle tells, by the words of layer 7, whether nodes are a cycle of arcs.
func isCycle(arcs []graph.Arc, cycle []int) bool {
	for i, node := range cycle {
		next := cycle[(i+1)%len(cycle)]
		if slices.Contains(cycle[:i], node) || !slices.Contains(arcs, graph.Arc{From: node, To: next}) {
			return false
		}
	}
	return len(cycle) > 0
}

// modelShows tells, by the chapter's words, whether all of a list of steps shows something of facts: it tries each place where the steps behind the first may fall apart.
func modelShows(ts []api.Txn, f chains.Facts, level int, tree []check.Node) bool {
	if len(tree) == 0 {
		return false
	}
	if cycle := tree[0].Cycle; len(cycle) > 0 {
		return len(tree) == 1 && isCycle(deps.Lift(deps.Edges(ts, f), level), cycle)
	}
	c, open := chains.Next(ts, f)
	if !open {
		return false
	}
	for at := range tree {
		if at > 0 && modelShows(ts, f.With(c, true), level, tree[1:at]) && modelShows(ts, f.With(c, false), level, tree[at:]) {
			return true
		}
	}
	return false
}

func modelHolds(es []api.Event, level int, v check.Verdict) bool {
	ts, _, e := hist.Of(es)
	if e != api.OK || !slices.Contains(levels, level) {
		return v.Kind == check.Malformed
	}
	fs := flaws.All(ts)
	if v.Kind == check.Pass {
		f, fixed := chains.Fix(ts, v.Proof.Done, v.Proof.Orders)
		return len(fs) == 0 && fixed && len(deps.Broken(ts, f, level)) == 0
	}
	if v.Kind == check.Failed && len(fs) > 0 {
		return slices.Contains(fs, v.Proof.Flaw)
	}
	return v.Kind == check.Failed && modelShows(ts, nil, level, v.Proof.Tree)
}

// fits tells whether a transaction that is told to be done reads what it was told to, upon a state.
func fits(t api.Txn, state map[int]int) bool {
	own := maps.Clone(state)
	for _, op := range t.Ops {
		if op.Kind == api.Write {
			own[op.Key] = op.Val
		} else if t.State == api.Done && own[op.Key] != op.Val {
			return false
		}
	}
	return true
}

// behind is a state behind a transaction's writes.
func behind(t api.Txn, state map[int]int) map[int]int {
	next := maps.Clone(state)
	for _, op := range hist.Writes(t) {
		next[op.Key] = op.Val
	}
	return next
}

// mayCommit tells whether nobody has written, since a state, what a transaction writes.
func mayCommit(t api.Txn, from, now map[int]int) bool {
	for _, op := range hist.Writes(t) {
		if from[op.Key] != now[op.Key] {
			return false
		}
	}
	return true
}

// canBe tells, without any dependencies, whether all transactions that were done can have been, one behind the other, and the open ones or not: each upon the state that it finds; at Snapshot upon any ahead of that, since which nobody has written what it writes.
func canBe(ts []api.Txn, level int, placed []int, states []map[int]int) bool {
	left := 0
	now := states[len(states)-1]
	for i, t := range ts {
		if slices.Contains(placed, i) || t.State == api.Gone {
			continue
		}
		if t.State == api.Done {
			left++
		}
		from := states[len(states)-1:]
		if level == api.Snapshot {
			from = states
		}
		can := slices.ContainsFunc(from, func(s map[int]int) bool { return fits(t, s) && mayCommit(t, s, now) })
		if can && canBe(ts, level, append(slices.Clone(placed), i), append(slices.Clone(states), behind(t, now))) {
			return true
		}
	}
	return left == 0
}

func modelKeeps(es []api.Event, level int) bool {
	ts, _, _ := hist.Of(es)
	return canBe(ts, level, nil, []map[int]int{{}})
}

// drawn is a history of a few transactions on one key or two: half of them read what others write, whatever comes of it, half of them as if they were run one behind the other, upon what stands or stood.
func drawn(source *rand.Rand, most int) []api.Event {
	txns := make([]told, 1+source.Intn(most))
	keys, val := 1+source.Intn(2), 0
	for i := range txns {
		txns[i].kind = []int{api.Ok, api.Ok, api.Ok, api.Ok, api.Ok, api.Ok, api.Info, api.Fail, 0}[source.Intn(9)]
		for range 1 + source.Intn(3) {
			op := r(source.Intn(keys)*9, 0)
			if source.Intn(2) == 0 {
				val++
				op = w(op.Key, val)
			}
			txns[i].ops = append(txns[i].ops, op)
		}
	}
	anything := source.Intn(2) == 0
	states := []map[int]int{{}}
	for _, i := range source.Perm(len(txns)) {
		own := maps.Clone(states[max(0, len(states)-1-source.Intn(2))])
		ours := map[int]int{}
		for at, op := range txns[i].ops {
			if op.Kind == api.Write {
				own[op.Key], ours[op.Key] = op.Val, op.Val
			}
			txns[i].ops[at].Val = own[op.Key]
			if anything && op.Kind == api.Read && ours[op.Key] == 0 {
				txns[i].ops[at].Val = written(source, txns, op.Key)
			}
		}
		if txns[i].kind != api.Fail {
			states = append(states, behind(api.Txn{Ops: txns[i].ops}, states[len(states)-1]))
		}
	}
	return history(txns...)
}

// written is something that somebody writes to a key, or 0.
func written(source *rand.Rand, txns []told, key int) int {
	vals := []int{0}
	for _, x := range txns {
		for _, op := range x.ops {
			if op.Kind == api.Write && op.Key == key && (x.kind != api.Fail || source.Intn(9) == 0) {
				vals = append(vals, op.Val)
			}
		}
	}
	return vals[source.Intn(len(vals))]
}

// turned is a proof that differs from another one in a thing or two.
func turned(source *rand.Rand, v check.Verdict) check.Verdict {
	p := v.Proof
	p.Tree, p.Done, p.Orders = slices.Clone(p.Tree), slices.Clone(p.Done), maps.Clone(p.Orders)
	for i, n := range p.Tree {
		p.Tree[i].Cycle = slices.Clone(n.Cycle)
	}
	for key, order := range p.Orders {
		p.Orders[key] = slices.Clone(order)
	}
	for range 1 + source.Intn(2) {
		turnOne(source, &p)
	}
	v.Proof = p
	return v
}

func turnOne(source *rand.Rand, p *check.Proof) {
	node := source.Intn(7) - 1
	switch source.Intn(8) {
	case 0:
		p.Flaw = flaws.Flaw{Txn: source.Intn(5), Read: source.Intn(3), Kind: source.Intn(4)}
	case 1:
		p.Tree = append(p.Tree, check.Node{Cycle: []int{node}}, check.Node{})[:len(p.Tree)+1+source.Intn(2)]
	case 2:
		if len(p.Tree) > 0 {
			at := source.Intn(len(p.Tree))
			p.Tree = slices.Delete(p.Tree, at, at+1)
		}
	case 3:
		if len(p.Tree) > 0 {
			at := source.Intn(len(p.Tree))
			p.Tree[at].Cycle = turnedList(source, p.Tree[at].Cycle, node)
		}
	case 4:
		if len(p.Tree) > 0 {
			// It goes on at a leaf: the same steps stand behind that, twice.
			at := source.Intn(len(p.Tree))
			p.Tree = slices.Insert(p.Tree, at, check.Node{}, p.Tree[at])
		}
	case 5:
		if len(p.Done) > 0 {
			at := source.Intn(len(p.Done))
			p.Done[at] = !p.Done[at]
		}
	default:
		key := source.Intn(3) * 9
		if p.Orders == nil {
			p.Orders = map[int][]int{}
		}
		p.Orders[key] = turnedList(source, p.Orders[key], node)
	}
}

func turnedList(source *rand.Rand, l []int, x int) []int {
	switch source.Intn(5) {
	case 0:
		return append(l, x)
	case 1:
		return l[:len(l)/2]
	case 2:
		if len(l) > 0 {
			l[source.Intn(len(l))] = x
		}
	default:
		source.Shuffle(len(l), func(i, j int) { l[i], l[j] = l[j], l[i] })
	}
	return l
}

// TestAsTheChapterSays holds what is told of drawn histories, and of proofs that differ from it in a thing or two, against the chapter's words; whatever holds is right.
func TestAsTheChapterSays(t *testing.T) {
	source := rand.New(rand.NewSource(12))
	held, refused := map[int]int{}, map[int]int{}
	byTree := 0
	for range 5000 {
		es := drawn(source, 4)
		for _, level := range levels {
			v := check.Check(es, level, 100000)
			if v.Kind == check.Unknown || !Holds(es, level, v) {
				t.Fatalf("%v, %d: %v doesn't hold", es, level, v)
			}
			keeps := modelKeeps(es, level)
			for range 8 {
				x := turned(source, v)
				if source.Intn(9) == 0 {
					x.Kind = source.Intn(5)
				}
				if len(x.Proof.Tree) > 40 {
					continue
				}
				got := Holds(es, level, x)
				if got != modelHolds(es, level, x) || got && keeps != (x.Kind == check.Pass) {
					t.Fatalf("Holds(%v, %d, %v): %v; keeps it: %v", es, level, x, got, keeps)
				}
				if got {
					held[x.Kind]++
					if len(x.Proof.Tree) > 1 {
						byTree++
					}
				} else {
					refused[x.Kind]++
				}
			}
		}
	}
	for _, kind := range []int{check.Pass, check.Failed} {
		if held[kind] < 500 || refused[kind] < 500 {
			t.Error("too few:", held, refused)
		}
	}
	if byTree < 500 {
		t.Error("too few by a tree:", byTree)
	}
	if held[check.Malformed]+held[check.Unknown] > 0 {
		t.Error("held:", held)
	}
}

// answers is all Done and Orders that may be of a history, good or not, where an order has each one once that the ones in Done write.
func answers(ts []api.Txn) []check.Proof {
	var ps []check.Proof
	for n := range 1 << len(ts) {
		done := make([]bool, len(ts))
		writers := map[int][]int{}
		for i, t := range ts {
			done[i] = n>>i&1 == 1
			for _, op := range hist.Writes(t) {
				if done[i] {
					writers[op.Key] = append(writers[op.Key], i)
				}
			}
		}
		some := []map[int][]int{{}}
		for key, by := range writers {
			var more []map[int][]int
			for _, order := range permutations(by) {
				for _, m := range some {
					m = maps.Clone(m)
					m[key] = order
					more = append(more, m)
				}
			}
			some = more
		}
		for _, orders := range some {
			ps = append(ps, check.Proof{Done: done, Orders: orders})
		}
	}
	return ps
}

func permutations(l []int) [][]int {
	if len(l) == 0 {
		return [][]int{nil}
	}
	var all [][]int
	for i, x := range l {
		for _, rest := range permutations(slices.Delete(slices.Clone(l), i, i+1)) {
			all = append(all, append([]int{x}, rest...))
		}
	}
	return all
}

// TestPassHoldsJustOfWhatKeepsTheLevel goes through all answers of drawn histories: one of them holds just where the level is kept, by a test that knows no dependencies.
func TestPassHoldsJustOfWhatKeepsTheLevel(t *testing.T) {
	source := rand.New(rand.NewSource(13))
	count := map[bool]int{}
	for range 5000 {
		es := drawn(source, 4)
		ts, _, _ := hist.Of(es)
		for _, level := range levels {
			any := slices.ContainsFunc(answers(ts), func(p check.Proof) bool {
				return Holds(es, level, check.Verdict{Kind: check.Pass, Proof: p})
			})
			if keeps := modelKeeps(es, level); any != keeps {
				t.Fatalf("%v, %d: an answer holds: %v, keeps it: %v", es, level, any, keeps)
			}
			count[any]++
		}
	}
	if count[true] < 500 || count[false] < 500 {
		t.Error("too few of a kind:", count)
	}
}

// cycles is all lists of unlike nodes that are cycles of arcs.
func cycles(n int, arcs []graph.Arc, path []int) [][]int {
	var all [][]int
	if isCycle(arcs, path) {
		all = append(all, slices.Clone(path))
	}
	for next := range n {
		if !slices.Contains(path, next) && (len(path) == 0 || slices.Contains(arcs, graph.Arc{From: path[len(path)-1], To: next})) {
			all = append(all, cycles(n, arcs, append(slices.Clone(path), next))...)
		}
	}
	return all
}

// anySearch is a search that takes any cycle that there is, or goes on in spite of it, while there is a choice; false: it has found an answer.
func anySearch(source *rand.Rand, ts []api.Txn, f chains.Facts, level int) ([]check.Node, bool) {
	all := cycles(len(ts), deps.Lift(deps.Edges(ts, f), level), nil)
	c, open := chains.Next(ts, f)
	if len(all) > 0 && (!open || source.Intn(3) > 0) {
		return []check.Node{{Cycle: all[source.Intn(len(all))]}}, true
	}
	if !open {
		return nil, false
	}
	so, fails := anySearch(source, ts, f.With(c, true), level)
	not, too := anySearch(source, ts, f.With(c, false), level)
	return append(append([]check.Node{{}}, so...), not...), fails && too
}

// TestFailedHoldsByAnySearch shows that a level isn't kept by other cycles than those that are told.
func TestFailedHoldsByAnySearch(t *testing.T) {
	source := rand.New(rand.NewSource(14))
	held := 0
	for range 5000 {
		es := drawn(source, 4)
		ts, _, _ := hist.Of(es)
		if len(flaws.All(ts)) > 0 || len(chains.Choices(ts)) > 7 {
			continue
		}
		for _, level := range levels {
			tree, fails := anySearch(source, ts, nil, level)
			if fails == modelKeeps(es, level) {
				t.Fatalf("%v, %d: the test's own search: %v", es, level, tree)
			}
			if got := Holds(es, level, check.Verdict{Kind: check.Failed, Proof: check.Proof{Tree: tree}}); got != fails {
				t.Fatalf("Holds(%v, %d, %v): %v", es, level, tree, got)
			}
			if fails {
				held++
			}
		}
	}
	if held < 300 {
		t.Error("too few:", held)
	}
}

// TestAnythingEnds hands in events that make no history, levels that are none, and proofs of anything.
func TestAnythingEnds(t *testing.T) {
	source := rand.New(rand.NewSource(15))
	around := func(most int) int { return source.Intn(most+3) - 1 }
	for range 5000 {
		es := drawn(source, 4)
		for range source.Intn(2) {
			ev := api.Event{Kind: around(api.Info), Client: around(5)}
			for range source.Intn(3) {
				ev.Ops = append(ev.Ops, api.Op{Kind: around(api.Write), Key: around(api.MaxKeys), Val: around(9)})
			}
			es = slices.Insert(es, source.Intn(len(es)+1), ev)
		}
		level := around(api.Serial)
		v := check.Verdict{Kind: around(check.Unknown), Proof: check.Proof{Flaw: flaws.Flaw{Txn: around(3), Read: around(2), Kind: around(3)}}}
		for range source.Intn(6) {
			v = turned(source, v)
			v.Proof.Done = append(v.Proof.Done, source.Intn(2) == 0)
		}
		if got := Holds(es, level, v); got != modelHolds(es, level, v) {
			t.Fatalf("Holds(%v, %d, %v): %v", es, level, v, got)
		}
	}
}
