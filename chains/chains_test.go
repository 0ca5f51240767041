package chains

import (
	"maps"
	"math"
	"reflect"
	"slices"
	"testing"

	"crucible/api"
)

func r(key, val int) api.Op { return api.Op{Kind: api.Read, Key: key, Val: val} }
func w(key, val int) api.Op { return api.Op{Kind: api.Write, Key: key, Val: val} }

func txn(state int, ops ...api.Op) api.Txn { return api.Txn{Client: 1, State: state, Ops: ops} }
func open(ops ...api.Op) api.Txn           { return txn(api.Open, ops...) }
func done(ops ...api.Op) api.Txn           { return txn(api.Done, ops...) }
func gone(ops ...api.Op) api.Txn           { return txn(api.Gone, ops...) }

func commit(a int) Choice         { return Choice{Kind: Commit, A: a} }
func before(key, a, b int) Choice { return Choice{Kind: Before, Key: key, A: a, B: b} }

// facts says of some choices that they are so, and of others that they aren't.
func facts(so []Choice, not ...Choice) Facts {
	f := Facts{}
	for _, c := range so {
		f[c] = true
	}
	for _, c := range not {
		f[c] = false
	}
	return f
}

func holdChoices(t *testing.T, ts []api.Txn, want ...Choice) {
	t.Helper()
	if got := Choices(ts); !slices.Equal(got, want) {
		t.Errorf("Choices(%v): %v, want %v", ts, got, want)
	}
}

func holdIs(t *testing.T, ts []api.Txn, f Facts, i int, is, known bool) {
	t.Helper()
	if got, ok := Is(ts, f, i); got != is || ok != known {
		t.Errorf("Is(%v, %v, %d): %v, %v, want %v, %v", ts, f, i, got, ok, is, known)
	}
}

func holdNext(t *testing.T, ts []api.Txn, f Facts, want Choice) {
	t.Helper()
	if got, ok := Next(ts, f); !ok || got != want {
		t.Errorf("Next(%v, %v): %v, %v, want %v", ts, f, got, ok, want)
	}
}

func holdNoNext(t *testing.T, ts []api.Txn, f Facts) {
	t.Helper()
	if got, ok := Next(ts, f); ok || got != (Choice{}) {
		t.Errorf("Next(%v, %v): %v, %v, want none", ts, f, got, ok)
	}
}

func holdChain(t *testing.T, ts []api.Txn, f Facts, key int, want ...int) {
	t.Helper()
	if got, ok := Chain(ts, f, key); !ok || !slices.Equal(got, want) {
		t.Errorf("Chain(%v, %v, %d): %v, %v, want %v", ts, f, key, got, ok, want)
	}
}

func holdNoChain(t *testing.T, ts []api.Txn, f Facts, key int) {
	t.Helper()
	if got, ok := Chain(ts, f, key); ok || len(got) != 0 {
		t.Errorf("Chain(%v, %v, %d): %v, %v, want none", ts, f, key, got, ok)
	}
}

func holdFix(t *testing.T, ts []api.Txn, is []bool, orders map[int][]int, want Facts) {
	t.Helper()
	if got, ok := Fix(ts, is, orders); !ok || !maps.Equal(got, want) {
		t.Errorf("Fix(%v, %v, %v): %v, %v, want %v", ts, is, orders, got, ok, want)
	}
}

func holdNoFix(t *testing.T, ts []api.Txn, is []bool, orders map[int][]int) {
	t.Helper()
	if got, ok := Fix(ts, is, orders); ok || len(got) != 0 {
		t.Errorf("Fix(%v, %v, %v): %v, %v, want none", ts, is, orders, got, ok)
	}
}

func TestTheDocumentsExample(t *testing.T) {
	ts := []api.Txn{open(w(0, 1)), done(w(0, 2))}
	holdChoices(t, ts, commit(0), before(0, 0, 1))
	if got := Bound(ts); got != 7 {
		t.Error("Bound", got)
	}
}

func TestTheKindsAreCounted(t *testing.T) {
	if Commit != 1 || Before != 2 {
		t.Error(Commit, Before)
	}
}

func TestWithSaysOneMore(t *testing.T) {
	var none Facts
	for _, f := range []Facts{none, {}} {
		if got := f.With(commit(3), false); !maps.Equal(got, facts(nil, commit(3))) {
			t.Error("With of no facts", got)
		}
	}
	f := Facts{}.With(commit(0), true).With(before(0, 0, 1), false)
	if !maps.Equal(f, facts([]Choice{commit(0)}, before(0, 0, 1))) {
		t.Error("With", f)
	}
	// What was said is said anew.
	if got := f.With(commit(0), false); !maps.Equal(got, facts(nil, commit(0), before(0, 0, 1))) {
		t.Error("With of what was said", got)
	}
	// Choices are unlike by any of their parts, and anything may be said.
	f = Facts{}
	all := []Choice{{}, {Kind: 1}, {Key: 1}, {A: 1}, {B: 1}, {Kind: math.MinInt, Key: -1, A: math.MaxInt, B: -1}}
	for i, c := range all {
		f = f.With(c, i%2 == 0)
	}
	for i, c := range all {
		if so, said := f[c]; !said || so != (i%2 == 0) {
			t.Error("With", c, so, said)
		}
	}
}

func TestWithIsNewMemory(t *testing.T) {
	f := facts([]Choice{commit(0)})
	g := f.With(commit(1), true)
	h := f.With(commit(0), false)
	if !maps.Equal(f, facts([]Choice{commit(0)})) {
		t.Error("With changes the facts", f)
	}
	f[commit(2)] = true
	delete(g, commit(0))
	if !maps.Equal(g, facts([]Choice{commit(1)})) || !maps.Equal(h, facts(nil, commit(0))) {
		t.Error("With shares memory", g, h)
	}
}

func TestWhatIsOpen(t *testing.T) {
	holdChoices(t, nil)
	holdChoices(t, []api.Txn{})
	// One that is done, gone, writes nothing, or is sure is no Commit.
	holdChoices(t, []api.Txn{done(w(0, 1)), gone(w(1, 2)), open(r(0, 0)), open(w(2, 3)), done(r(2, 3)), open()})
	// By rising A, those that only write besides reading too.
	holdChoices(t, []api.Txn{open(w(0, 1)), done(r(0, 0)), open(r(0, 0), w(1, 2), r(1, 0)), open(w(15, 3))}, commit(0), commit(2), commit(3))
}

func TestWhoseWritesHaveAnOrder(t *testing.T) {
	// Of three by B, then A; by rising keys ahead of that, in whatever order they were written.
	ts := []api.Txn{done(w(15, 1), w(0, 2)), done(w(0, 3), w(15, 4)), done(w(7, 5), w(0, 6))}
	holdChoices(t, ts, before(0, 0, 1), before(0, 0, 2), before(0, 1, 2), before(15, 0, 1))
	// Two writes of a key by one transaction are one, and none ahead of itself.
	holdChoices(t, []api.Txn{done(w(0, 1), w(0, 2), w(1, 3), w(0, 4)), done(w(1, 5), w(1, 6))}, before(1, 0, 1))
	// Reads are no writes.
	holdChoices(t, []api.Txn{done(w(0, 1)), done(r(0, 1), w(1, 2)), done(r(1, 2))})
	// Those that are gone don't count; those that are open do, be they sure or not.
	ts = []api.Txn{open(w(0, 1)), gone(w(0, 2)), open(w(0, 3)), done(r(0, 3)), done(w(0, 4))}
	holdChoices(t, ts, commit(0), before(0, 0, 2), before(0, 0, 4), before(0, 2, 4))
}

func TestWhoIsDone(t *testing.T) {
	ts := []api.Txn{done(w(0, 1)), gone(w(0, 2)), open(r(0, 0)), open(w(0, 3)), open(w(0, 4)), done(r(0, 4))}
	holdIs(t, ts, nil, 0, true, true)
	holdIs(t, ts, nil, 1, false, true)
	holdIs(t, ts, nil, 2, false, true)
	holdIs(t, ts, nil, 3, false, false)
	holdIs(t, ts, nil, 4, true, true)
	holdIs(t, ts, nil, 5, true, true)
	holdIs(t, ts, facts([]Choice{commit(3)}), 3, true, true)
	holdIs(t, ts, facts(nil, commit(3)), 3, false, true)
	// Who is sure is done, whatever is said; what is no choice is not said.
	wrong := facts([]Choice{commit(1), commit(2), commit(-1), commit(6)}, commit(0), commit(4), commit(5))
	for i, is := range []bool{true, false, false, false, true, true} {
		holdIs(t, ts, wrong, i, is, i != 3)
	}
	// Facts of others, and such that only look alike, don't say Commit of it.
	others := facts([]Choice{commit(0), commit(4), {Kind: Before, A: 3}, {Kind: Commit, Key: 1, A: 3}, {Kind: Commit, A: 3, B: 1}, {A: 3}})
	holdIs(t, ts, others, 3, false, false)
	// What is no place of them is nobody.
	for _, i := range []int{-1, 6, math.MinInt, math.MaxInt} {
		holdIs(t, ts, wrong, i, false, false)
	}
	holdIs(t, nil, wrong, 0, false, false)
}

func TestWhatComesNext(t *testing.T) {
	holdNoNext(t, nil, nil)
	ts := []api.Txn{open(w(0, 1)), done(w(0, 2)), open(w(0, 3), w(1, 4)), done(w(1, 5))}
	holdNext(t, ts, nil, commit(0))
	holdNext(t, ts, Facts{}, commit(0))
	// All Commits come ahead of the first Before, though two are done.
	holdNext(t, ts, facts([]Choice{commit(0)}), commit(2))
	holdNext(t, ts, facts([]Choice{commit(0), before(0, 0, 1)}), commit(2))
	holdNext(t, ts, facts(nil, commit(2)), commit(0))
	both := facts([]Choice{commit(0), commit(2)})
	holdNext(t, ts, both, before(0, 0, 1))
	holdNext(t, ts, both.With(before(0, 0, 1), false), before(0, 0, 2))
	holdNext(t, ts, both.With(before(0, 0, 1), true).With(before(0, 1, 2), true), before(0, 0, 2))
	holdNext(t, ts, both.With(before(0, 0, 1), true).With(before(0, 0, 2), true), before(0, 1, 2))
	last := both.With(before(0, 0, 1), true).With(before(0, 0, 2), true).With(before(0, 1, 2), true)
	holdNext(t, ts, last, before(1, 2, 3))
	holdNoNext(t, ts, last.With(before(1, 2, 3), false))
	// A Before of one that isn't done is left out.
	holdNext(t, ts, facts([]Choice{commit(0)}, commit(2)), before(0, 0, 1))
	holdNext(t, ts, facts([]Choice{commit(2)}, commit(0)), before(0, 1, 2))
	holdNext(t, ts, facts([]Choice{commit(2), before(0, 1, 2)}, commit(0)), before(1, 2, 3))
	holdNoNext(t, ts, facts(nil, commit(0), commit(2)))
	// What is no choice says nothing.
	odd := []Choice{before(0, 1, 0), before(0, 0, 0), before(2, 0, 1), {Kind: 0, A: 0, B: 1}, {Kind: 3, A: 0, B: 1}, {Kind: Commit, Key: 1}, {Kind: Commit, B: 1}}
	holdNext(t, ts, facts(odd), commit(0))
	holdNext(t, ts, facts(append(odd, commit(0), commit(2))), before(0, 0, 1))
	// Of one that is sure nothing else can be said.
	sure := []api.Txn{open(w(0, 1)), done(r(0, 1), w(0, 2))}
	holdNext(t, sure, facts(nil, commit(0)), before(0, 0, 1))
	// One that is gone has no write, though a fact says that it was done.
	holdNoNext(t, []api.Txn{gone(w(0, 1)), done(w(0, 2))}, facts([]Choice{commit(0)}))
}

func TestHowManySteps(t *testing.T) {
	// One key that n write has n (n - 1) / 2 choices; each one that is open has one more.
	writers := func(n, opens int) []api.Txn {
		ts := make([]api.Txn, n)
		for i := range ts {
			ts[i] = done(w(0, i+1))
			if i < opens {
				ts[i].State = api.Open
			}
		}
		return ts
	}
	for _, c := range []struct{ n, opens, want int }{
		{0, 0, 1}, {1, 0, 1}, {1, 1, 3}, {2, 0, 3}, {2, 1, 7}, {2, 2, 15}, {3, 1, 31},
		{9, 2, 1<<39 - 1}, {9, 3, 1<<40 - 1}, {9, 4, 1<<41 - 1}, {9, 5, 1<<41 - 1}, {10, 0, 1<<41 - 1}, {400, 400, 1<<41 - 1},
	} {
		if got := Bound(writers(c.n, c.opens)); got != c.want {
			t.Errorf("Bound of %d, %d of them open: %d, want %d", c.n, c.opens, got, c.want)
		}
	}
	if got := Bound([]api.Txn{gone(w(0, 1)), done(w(0, 2)), open(r(0, 0))}); got != 1 {
		t.Error("Bound of no choices", got)
	}
}

func TestTheOrderOfAKey(t *testing.T) {
	ts := []api.Txn{open(w(0, 1)), done(w(0, 2), w(1, 3)), gone(w(0, 4)), done(w(0, 5)), open(r(0, 0))}
	f := facts([]Choice{commit(0), before(0, 1, 3)}, before(0, 0, 1), before(0, 0, 3))
	holdChain(t, ts, f, 0, 1, 3, 0)
	holdChain(t, ts, f.With(before(0, 0, 3), true), 0, 1, 0, 3)
	holdChain(t, ts, f.With(before(0, 0, 3), true).With(before(0, 0, 1), true), 0, 0, 1, 3)
	holdChain(t, ts, facts(nil, before(0, 1, 3)), 0, 3, 1)
	// One alone; nobody; a key that isn't one.
	for _, any := range []Facts{nil, f} {
		holdChain(t, ts, any, 1, 1)
		holdChain(t, ts, any, 2)
		holdChain(t, ts, any, -1)
		holdChain(t, ts, any, math.MaxInt)
		holdChain(t, nil, any, 0)
		holdChain(t, []api.Txn{open(w(0, 1)), gone(w(0, 2)), done(r(0, 0))}, facts(nil, commit(0)), 0)
	}
	// Of one that nobody knows of there is no write as yet.
	holdChain(t, ts[:1], nil, 0)
	holdChain(t, ts[:1], f, 0, 0)
	// One pair that isn't said.
	for _, c := range []Choice{before(0, 1, 3), before(0, 0, 1), before(0, 0, 3)} {
		less := maps.Clone(f)
		delete(less, c)
		holdNoChain(t, ts, less, 0)
	}
	// Without the facts that say it, none follows from the others: not even from 0 ahead of 1 ahead of 3.
	holdNoChain(t, ts, facts([]Choice{commit(0), before(0, 0, 1), before(0, 1, 3)}), 0)
	// It goes round, both ways.
	holdNoChain(t, ts, facts([]Choice{commit(0), before(0, 0, 1), before(0, 1, 3)}, before(0, 0, 3)), 0)
	holdNoChain(t, ts, facts([]Choice{commit(0), before(0, 0, 3)}, before(0, 0, 1), before(0, 1, 3)), 0)
	// Facts of another key, the other way round, or of another kind are none of these.
	for _, c := range []Choice{before(1, 1, 3), before(0, 3, 1), {Kind: Commit, A: 1, B: 3}, {A: 1, B: 3}} {
		holdNoChain(t, ts, facts([]Choice{c}), 0)
	}
}

// TestALongRound has an order, and then two of it, far from each other, the other way.
func TestALongRound(t *testing.T) {
	const n = 60
	ts := make([]api.Txn, n)
	f := Facts{}
	want := make([]int, n)
	for i := range ts {
		ts[i] = done(w(3, i+1))
		want[i] = n - 1 - i
		for a := range i {
			f[before(3, a, i)] = false
		}
	}
	holdChain(t, ts, f, 3, want...)
	f[before(3, 10, 50)] = true
	holdNoChain(t, ts, f, 3)
}

func TestFactsOfAnAnswer(t *testing.T) {
	ts := []api.Txn{open(w(0, 1), w(1, 2)), done(w(0, 3)), gone(w(0, 4)), open(w(0, 5)), done(r(0, 5), w(1, 6)), open(r(0, 0))}
	all := []bool{true, true, false, true, true, false}
	holdFix(t, ts, all, map[int][]int{0: {3, 0, 1}, 1: {0, 4}},
		facts([]Choice{commit(0), before(0, 0, 1), before(1, 0, 4)}, before(0, 0, 3), before(0, 1, 3)))
	holdFix(t, ts, all, map[int][]int{0: {0, 1, 3}, 1: {4, 0}, 2: nil, 15: {}},
		facts([]Choice{commit(0), before(0, 0, 1), before(0, 0, 3), before(0, 1, 3)}, before(1, 0, 4)))
	// Who isn't done stands in no order.
	without := []bool{false, true, false, true, true, false}
	holdFix(t, ts, without, map[int][]int{0: {3, 1}, 1: {4}}, facts(nil, commit(0), before(0, 1, 3)))
	// Of other keys there may be anything.
	holdFix(t, ts, without, map[int][]int{0: {3, 1}, 1: {4}, 16: {1, 1}, -1: {0}, math.MinInt: {9}, math.MaxInt: {-1}}, facts(nil, commit(0), before(0, 1, 3)))
	// Nothing at all.
	for _, none := range []map[int][]int{nil, {}, {16: {0}}} {
		holdFix(t, nil, nil, none, nil)
		holdFix(t, []api.Txn{done(r(0, 0))}, []bool{true}, none, nil)
		holdFix(t, []api.Txn{open(w(0, 1))}, []bool{false}, none, facts(nil, commit(0)))
	}
	if f, ok := Fix(nil, nil, nil); !ok || len(f) != 0 {
		t.Error("Fix of nothing", f, ok)
	}
}

func TestWhatIsNoAnswer(t *testing.T) {
	ts := []api.Txn{open(w(0, 1), w(1, 2)), done(w(0, 3)), gone(w(0, 4)), open(w(0, 5)), done(r(0, 5), w(1, 6)), open(r(0, 0))}
	all := []bool{true, true, false, true, true, false}
	good := map[int][]int{0: {3, 0, 1}, 1: {0, 4}}
	holdNoFix(t, ts, nil, good)
	holdNoFix(t, ts, all[:5], good)
	holdNoFix(t, ts, append(slices.Clone(all), false), good)
	holdNoFix(t, nil, []bool{false}, nil)
	// Each of those that have no choice, the other way; those that would be done have their place in the orders.
	for i, orders := range map[int]map[int][]int{
		1: {0: {3, 0}, 1: {0, 4}}, 2: {0: {3, 0, 1, 2}, 1: {0, 4}}, 3: {0: {0, 1}, 1: {0, 4}}, 4: {0: {3, 0, 1}, 1: {0}}, 5: good,
	} {
		is := slices.Clone(all)
		is[i] = !is[i]
		holdNoFix(t, ts, is, orders)
		holdNoFix(t, ts, is, good)
	}
	// 0 has a choice: but then not in the orders.
	holdNoFix(t, ts, []bool{false, true, false, true, true, false}, good)
	for _, order := range [][]int{nil, {}, {3}, {3, 0}, {3, 0, 0}, {3, 0, 1, 1}, {3, 0, 1, 2}, {3, 0, 2}, {3, 0, 4}, {3, 0, 5}, {3, 0, 6}, {3, 0, -1}, {3, 0, 1, math.MaxInt}} {
		holdNoFix(t, ts, all, map[int][]int{0: order, 1: {0, 4}})
	}
	holdNoFix(t, ts, all, map[int][]int{0: {3, 0, 1}})
	holdNoFix(t, ts, all, map[int][]int{0: {3, 0, 1}, 1: {0, 4}, 2: {0}})
	holdNoFix(t, ts, all, map[int][]int{0: {3, 0, 1}, 1: {0, 4}, 15: {1}})
	holdNoFix(t, ts, all, nil)
}

func TestNothingIsSharedOrChanged(t *testing.T) {
	make2 := func() []api.Txn {
		return []api.Txn{open(w(0, 1), w(9, 9)), done(w(0, 2), w(9, 8)), done(w(0, 3), r(9, 9)), open(w(0, 7))}
	}
	// Behind the end of each list there is room, in which something stands.
	room := make2()
	ts := room[:3]
	for i := range ts {
		ts[i].Ops = ts[i].Ops[:1]
	}
	f := facts([]Choice{commit(0), before(0, 1, 2)}, before(0, 0, 1), before(0, 0, 2))
	said := maps.Clone(f)
	is, order := []bool{true, true, true, false}, []int{1, 2, 0, 3}
	orders := map[int][]int{0: order[:3]}
	want := []Choice{commit(0), before(0, 0, 1), before(0, 0, 2), before(0, 1, 2)}
	all := Choices(ts)
	chain, _ := Chain(ts, f, 0)
	fixed, ok := Fix(ts, is[:3], orders)
	if !slices.Equal(all, want) || !slices.Equal(chain, order[:3]) || !ok || !maps.Equal(fixed, f) {
		t.Fatal(all, chain, fixed)
	}
	holdNoNext(t, ts, f)
	holdIs(t, ts, f, 0, true, true)
	if Bound(ts) != 31 {
		t.Error("Bound", Bound(ts))
	}
	clear(all[:cap(all)])
	clear(chain[:cap(chain)])
	clear(fixed)
	for i := range ts {
		ts[i].Ops = ts[i].Ops[:2]
	}
	if !reflect.DeepEqual(room, make2()) || !maps.Equal(f, said) {
		t.Error("what was handed in is changed", room, f)
	}
	if !slices.Equal(is, []bool{true, true, true, false}) || !slices.Equal(order, []int{1, 2, 0, 3}) || len(orders) != 1 {
		t.Error("an answer to judge is changed", is, orders)
	}
	for i := range ts {
		ts[i].Ops = ts[i].Ops[:1]
	}
	holdChoices(t, ts, want...)
	holdChain(t, ts, f, 0, 1, 2, 0)
	holdFix(t, ts, is[:3], orders, f)
}
