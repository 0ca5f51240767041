package chains

import (
	"maps"
	"math/rand"
	"slices"
	"testing"

	"crucible/api"
	"crucible/flaws"
	"crucible/hist"
)

// writes tells whether a transaction writes a key.
func writes(t api.Txn, key int) bool {
	return slices.ContainsFunc(hist.Writes(t), func(op api.Op) bool { return op.Key == key })
}

// chosen tells whether it is a choice that a transaction was done.
func chosen(ts []api.Txn, i int) bool {
	return ts[i].State == api.Open && !flaws.Sure(ts)[i] && len(hist.Writes(ts[i])) > 0
}

func modelIs(ts []api.Txn, f Facts, i int) (bool, bool) {
	if chosen(ts, i) {
		so, said := f[commit(i)]
		return so, said
	}
	return flaws.Sure(ts)[i], true
}

// modelChoices asks of all that a choice may be, in order, whether it is one.
func modelChoices(ts []api.Txn) []Choice {
	var all []Choice
	for i := range ts {
		if chosen(ts, i) {
			all = append(all, commit(i))
		}
	}
	for key := range api.MaxKeys {
		for b := range ts {
			for a := range b {
				if ts[a].State != api.Gone && ts[b].State != api.Gone && writes(ts[a], key) && writes(ts[b], key) {
					all = append(all, before(key, a, b))
				}
			}
		}
	}
	return all
}

func modelNext(ts []api.Txn, f Facts) (Choice, bool) {
	for _, c := range modelChoices(ts) {
		if _, said := f[c]; said {
			continue
		}
		a, _ := modelIs(ts, f, c.A)
		b, _ := modelIs(ts, f, c.B)
		if c.Kind == Commit || a && b {
			return c, true
		}
	}
	return Choice{}, false
}

func modelBound(ts []api.Txn) int {
	power := 2
	for range min(len(modelChoices(ts)), 40) {
		power *= 2
	}
	return power - 1
}

// doneWriters is those that are done and write a key, by rising places.
func doneWriters(ts []api.Txn, f Facts, key int) []int {
	var by []int
	for i, t := range ts {
		if is, _ := modelIs(ts, f, i); is && writes(t, key) {
			by = append(by, i)
		}
	}
	return by
}

// ahead tells whether the facts say that a's write stands ahead of b's.
func ahead(f Facts, key, a, b int) bool {
	so, said := f[before(key, min(a, b), max(a, b))]
	return said && so == (a < b)
}

// orders is all orders of some.
func orders(some []int) [][]int {
	if len(some) == 0 {
		return [][]int{{}}
	}
	var all [][]int
	for i, first := range some {
		for _, rest := range orders(slices.Delete(slices.Clone(some), i, i+1)) {
			all = append(all, append([]int{first}, rest...))
		}
	}
	return all
}

// modelChain tries all orders.
func modelChain(ts []api.Txn, f Facts, key int) ([]int, bool) {
	for _, order := range orders(doneWriters(ts, f, key)) {
		fits := true
		for n, b := range order {
			for _, a := range order[:n] {
				fits = fits && ahead(f, key, a, b)
			}
		}
		if fits {
			return order, true
		}
	}
	return nil, false
}

// modelFix says the Commits, and asks all else of these facts.
func modelFix(ts []api.Txn, is []bool, by map[int][]int) (Facts, bool) {
	if len(is) != len(ts) {
		return nil, false
	}
	f := Facts{}
	for i := range ts {
		if chosen(ts, i) {
			f[commit(i)] = is[i]
		}
	}
	for i := range ts {
		if so, _ := modelIs(ts, f, i); so != is[i] {
			return nil, false
		}
	}
	for key := range api.MaxKeys {
		if !slices.Equal(slices.Sorted(slices.Values(by[key])), doneWriters(ts, f, key)) {
			return nil, false
		}
		for n, b := range by[key] {
			for _, a := range by[key][:n] {
				f[before(key, min(a, b), max(a, b))] = a < b
			}
		}
	}
	return f, true
}

// drawn is transactions as layer 5 tells them: each value is written once; what is read is what somebody writes there, or anything.
func drawn(source *rand.Rand) []api.Txn {
	ts := make([]api.Txn, source.Intn(6))
	keys, val := source.Intn(3)+1, 0
	for i := range ts {
		ts[i] = txn(source.Intn(3))
		for range source.Intn(4) + 1 {
			key := source.Intn(keys) * 7
			op := r(key, 0)
			if source.Intn(3) > 0 {
				val++
				op = w(key, val)
			}
			ts[i].Ops = append(ts[i].Ops, op)
		}
	}
	for _, t := range ts {
		for i, op := range t.Ops {
			if op.Kind == api.Read && t.State == api.Done {
				t.Ops[i].Val = told(source, ts, t.Ops[:i], op.Key)
			}
		}
	}
	return ts
}

// told is what a read of a key reads behind some operations of its own transaction.
func told(source *rand.Rand, ts []api.Txn, own []api.Op, key int) int {
	for _, op := range slices.Backward(own) {
		if op.Kind == api.Write && op.Key == key {
			return op.Val
		}
	}
	vals := []int{0, source.Intn(20)}
	for _, t := range ts {
		for _, op := range t.Ops {
			if op.Kind == api.Write && op.Key == key {
				vals = append(vals, op.Val)
			}
		}
	}
	return vals[source.Intn(len(vals))]
}

// someFacts says of each choice, more or less often, something, and of others, too.
func someFacts(source *rand.Rand, ts []api.Txn) Facts {
	f := Facts{}
	often := source.Intn(8) + 1
	for _, c := range modelChoices(ts) {
		if source.Intn(often+1) < often {
			f[c] = source.Intn(3) > 0
		}
	}
	for range source.Intn(6) {
		f[Choice{Kind: source.Intn(4), Key: source.Intn(2) * 7, A: source.Intn(7) - 1, B: source.Intn(7) - 1}] = source.Intn(2) == 0
	}
	return f
}

// answerOf is who is done and in which orders, mostly as some facts say, else with something changed.
func answerOf(source *rand.Rand, ts []api.Txn, f Facts) ([]bool, map[int][]int) {
	is, by := make([]bool, len(ts)), map[int][]int{}
	for i := range ts {
		is[i], _ = modelIs(ts, f, i)
	}
	for _, key := range []int{0, 7, 14} {
		all := orders(doneWriters(ts, f, key))
		by[key] = all[source.Intn(len(all))]
	}
	switch source.Intn(8) {
	case 0:
		is = append(is, false)
	case 1:
		if len(is) > 0 {
			i := source.Intn(len(is))
			is[i] = !is[i]
		}
	case 2:
		by[7] = append(by[7], source.Intn(6))
	case 3:
		if len(by[0]) > 0 {
			by[0][source.Intn(len(by[0]))] = source.Intn(8) - 1
		}
	case 4:
		delete(by, 0)
	}
	return is, by
}

// holdModel holds all calls against the chapter's words.
func holdModel(t *testing.T, ts []api.Txn, f Facts) {
	t.Helper()
	holdChoices(t, ts, modelChoices(ts)...)
	if got, want := Bound(ts), modelBound(ts); got != want {
		t.Errorf("Bound(%v): %d, want %d", ts, got, want)
	}
	for i := range ts {
		is, known := modelIs(ts, f, i)
		holdIs(t, ts, f, i, is, known)
	}
	if c, ok := modelNext(ts, f); ok {
		holdNext(t, ts, f, c)
	} else {
		holdNoNext(t, ts, f)
	}
	for _, key := range []int{0, 7, 14, 1} {
		if order, ok := modelChain(ts, f, key); ok {
			holdChain(t, ts, f, key, order...)
		} else {
			holdNoChain(t, ts, f, key)
		}
	}
}

func TestDrawnOnesAsTheChapterSays(t *testing.T) {
	source := rand.New(rand.NewSource(9))
	fixed, refused, chains := 0, 0, 0
	for range 4000 {
		ts := drawn(source)
		f := someFacts(source, ts)
		holdModel(t, ts, f)
		if order, ok := Chain(ts, f, 0); ok && len(order) > 2 {
			chains++
		}
		is, by := answerOf(source, ts, f)
		if want, ok := modelFix(ts, is, by); ok {
			holdFix(t, ts, is, by, want)
			fixed++
		} else {
			holdNoFix(t, ts, is, by)
			refused++
		}
		if t.Failed() {
			return
		}
	}
	if fixed < 1000 || refused < 500 || chains < 100 {
		t.Error("too few of a kind:", fixed, refused, chains)
	}
}

// TestTheSearchEnds goes on from no facts by Next, each choice so or not: within Bound's steps it says all that counts.
func TestTheSearchEnds(t *testing.T) {
	source := rand.New(rand.NewSource(10))
	ends := 0
	for range 300 {
		ts := drawn(source)
		if len(Choices(ts)) > 9 {
			continue
		}
		steps := 0
		var search func(f Facts)
		search = func(f Facts) {
			steps++
			c, ok := Next(ts, f)
			if ok {
				search(f.With(c, true))
				search(f.With(c, false))
				return
			}
			ends++
			holdEnd(t, ts, f)
		}
		search(nil)
		if bound := Bound(ts); steps > bound {
			t.Fatalf("%v: %d steps, of %d", ts, steps, bound)
		}
	}
	if ends < 1000 {
		t.Error("too few ends:", ends)
	}
}

// holdEnd holds that nothing is open, and that where each key has an order Fix makes the same facts of the answer.
func holdEnd(t *testing.T, ts []api.Txn, f Facts) {
	t.Helper()
	is, by := make([]bool, len(ts)), map[int][]int{}
	for i := range ts {
		known := false
		if is[i], known = Is(ts, f, i); !known {
			t.Fatalf("%v, %v: %d is open", ts, f, i)
		}
	}
	for key := range api.MaxKeys {
		order, ok := Chain(ts, f, key)
		if !ok {
			return
		}
		by[key] = order
	}
	if got, ok := Fix(ts, is, by); !ok || !maps.Equal(got, f) {
		t.Fatalf("Fix(%v, %v, %v): %v, %v, want %v", ts, is, by, got, ok, f)
	}
}

// TestAnythingEnds hands in what no history tells: values twice, other kinds, keys and states, and facts of anybody.
func TestAnythingEnds(t *testing.T) {
	source := rand.New(rand.NewSource(11))
	for range 3000 {
		ts := make([]api.Txn, source.Intn(8))
		for i := range ts {
			ts[i] = txn(source.Intn(5) - 1)
			for range source.Intn(8) {
				ts[i].Ops = append(ts[i].Ops, api.Op{Kind: source.Intn(4), Key: source.Intn(19) - 1, Val: source.Intn(5) - 1})
			}
		}
		f := someFacts(source, nil)
		if len(Choices(ts)) < 40 && Bound(ts) != 1<<(len(Choices(ts))+1)-1 {
			t.Fatalf("Bound(%v): %d", ts, Bound(ts))
		}
		Next(ts, f)
		Chain(ts, f, source.Intn(19)-1)
		Is(ts, f, source.Intn(10)-1)
		Fix(ts, make([]bool, source.Intn(8)), map[int][]int{0: {source.Intn(9) - 1, 1}})
		f.With(Choice{Kind: source.Intn(4)}, false)
	}
}

// TestTheGreatestHistory has as many that write the same keys as there may be. Of many more Next, Bound and Chain still have short answers.
func TestTheGreatestHistory(t *testing.T) {
	ts := make([]api.Txn, api.MaxEvents/2)
	is, by := make([]bool, len(ts)), map[int][]int{}
	for i := range ts {
		ts[i], is[i] = open(), i%3 > 0
		for key := range api.MaxOps {
			ts[i].Ops = append(ts[i].Ops, w(key, 1+i*api.MaxOps+key))
			if is[i] {
				by[key] = append(by[key], i)
			}
		}
	}
	for key := range by {
		source := rand.New(rand.NewSource(int64(key)))
		source.Shuffle(len(by[key]), func(i, j int) { by[key][i], by[key][j] = by[key][j], by[key][i] })
	}
	n := len(ts)
	if got := len(Choices(ts)); got != n+n*(n-1)/2*api.MaxOps {
		t.Error("Choices", got)
	}
	f, ok := Fix(ts, is, by)
	if done := len(by[0]); !ok || len(f) != n+done*(done-1)/2*api.MaxOps {
		t.Error("Fix", len(f), ok)
	}
	holdNoNext(t, ts, f)
	for key, order := range by {
		if got, ok := Chain(ts, f, key); !ok || !slices.Equal(got, order) {
			t.Error("Chain", key, got, ok)
		}
	}
	last := before(api.MaxOps-1, n-3, n-1)
	delete(f, last)
	if c, ok := Next(ts, f); !ok || c != last {
		t.Error("Next of the last", c, ok)
	}
	many := slices.Repeat(ts[:1], 1<<17)
	if c, ok := Next(many, nil); !ok || c != commit(0) || Bound(many) != 1<<41-1 {
		t.Error("of many", c, ok)
	}
	if _, ok := Chain(slices.Repeat([]api.Txn{done(w(0, 1))}, 1<<17), nil, 0); ok {
		t.Error("Chain of many")
	}
}
