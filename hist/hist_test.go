package hist

import (
	"math"
	"math/rand"
	"reflect"
	"slices"
	"testing"

	"crucible/api"
)

func r(key, val int) api.Op { return api.Op{Kind: api.Read, Key: key, Val: val} }
func w(key, val int) api.Op { return api.Op{Kind: api.Write, Key: key, Val: val} }

func ev(kind, client int, ops ...api.Op) api.Event {
	return api.Event{Kind: kind, Client: client, Ops: ops}
}

func invoke(client int, ops ...api.Op) api.Event { return ev(api.Invoke, client, ops...) }
func ok(client int, ops ...api.Op) api.Event     { return ev(api.Ok, client, ops...) }
func fail(client int, ops ...api.Op) api.Event   { return ev(api.Fail, client, ops...) }
func info(client int, ops ...api.Op) api.Event   { return ev(api.Info, client, ops...) }

func txn(client, state int, ops ...api.Op) api.Txn {
	return api.Txn{Client: client, State: state, Ops: ops}
}

func sameTxn(a, b api.Txn) bool {
	return a.Client == b.Client && a.State == b.State && slices.Equal(a.Ops, b.Ops)
}

func holdTxns(t *testing.T, es []api.Event, want []api.Txn) {
	t.Helper()
	ts, at, e := Of(es)
	if e != api.OK || at != 0 || !slices.EqualFunc(ts, want, sameTxn) {
		t.Errorf("Of(%v): %v, %d, %d, want %v", es, ts, at, e, want)
	}
}

func holdError(t *testing.T, es []api.Event, at int, want api.Errno) {
	t.Helper()
	if ts, got, e := Of(es); len(ts) != 0 || got != at || e != want {
		t.Errorf("Of(%v): %v, %d, %d, want %d, %d", es, ts, got, e, at, want)
	}
}

func TestTheDocumentsExample(t *testing.T) {
	es := []api.Event{invoke(1, r(0, 0), w(0, 5)), ok(1, r(0, 7), w(0, 5))}
	holdTxns(t, es, []api.Txn{txn(1, api.Done, r(0, 7), w(0, 5))})
	ts, _, _ := Of(es)
	if got := Reads(ts[0]); !slices.Equal(got, []api.Op{r(0, 7)}) {
		t.Error("Reads", got)
	}
	if got := Writes(ts[0]); !slices.Equal(got, []api.Op{w(0, 5)}) {
		t.Error("Writes", got)
	}
	holdError(t, []api.Event{es[0], ok(1, r(0, 7), w(0, 6))}, 1, api.ErrOps)
}

func TestNoEventsHaveNoTransactions(t *testing.T) {
	holdTxns(t, nil, nil)
	holdTxns(t, []api.Event{}, nil)
}

func TestWhatBecomesOfATransaction(t *testing.T) {
	asked := invoke(1, r(3, 0), w(3, 8))
	open := txn(1, api.Open, r(3, 0), w(3, 8))
	holdTxns(t, []api.Event{asked}, []api.Txn{open})
	holdTxns(t, []api.Event{asked, info(1)}, []api.Txn{open})
	holdTxns(t, []api.Event{asked, fail(1)}, []api.Txn{txn(1, api.Gone, r(3, 0), w(3, 8))})
	holdTxns(t, []api.Event{asked, ok(1, r(3, 9), w(3, 8))}, []api.Txn{txn(1, api.Done, r(3, 9), w(3, 8))})
	holdTxns(t, []api.Event{asked, {Kind: api.Fail, Client: 1, Ops: []api.Op{}}}, []api.Txn{txn(1, api.Gone, r(3, 0), w(3, 8))})
}

// TestTransactionsStandAsTheyWereBegun ends them in another order than they were begun in.
func TestTransactionsStandAsTheyWereBegun(t *testing.T) {
	holdTxns(t, []api.Event{
		invoke(9, r(0, 0)), invoke(2, w(1, 1)), invoke(16, r(2, 0), r(2, 0)), invoke(1, w(3, 2)),
		ok(16, r(2, 5), r(2, 6)), invoke(16, w(4, 3)), fail(2), invoke(2, r(5, 0)), info(1), ok(9, r(0, 7)),
		invoke(1, r(6, 0)), ok(2, r(5, 0)), invoke(9, r(7, 0)),
	}, []api.Txn{
		txn(9, api.Done, r(0, 7)), txn(2, api.Gone, w(1, 1)), txn(16, api.Done, r(2, 5), r(2, 6)), txn(1, api.Open, w(3, 2)),
		txn(16, api.Open, w(4, 3)), txn(2, api.Done, r(5, 0)), txn(1, api.Open, r(6, 0)), txn(9, api.Open, r(7, 0)),
	})
}

func TestTheEdgesAreSound(t *testing.T) {
	ops := []api.Op{w(0, 1), w(15, api.MaxVal-1), r(0, 0), r(15, 0)}
	for len(ops) < api.MaxOps {
		ops = append(ops, r(7, 0))
	}
	told := slices.Clone(ops)
	told[2].Val, told[3].Val, told[4].Val = 1, api.MaxVal-1, api.MaxVal-1
	for _, client := range []int{1, api.MaxClients} {
		holdTxns(t, []api.Event{invoke(client, ops...), ok(client, told...)}, []api.Txn{txn(client, api.Done, told...)})
	}
}

func TestTooManyEvents(t *testing.T) {
	var es []api.Event
	var want []api.Txn
	for i := range api.MaxEvents / 2 {
		es = append(es, invoke(i%api.MaxClients+1, w(0, i+1)), fail(i%api.MaxClients+1))
		want = append(want, txn(i%api.MaxClients+1, api.Gone, w(0, i+1)))
	}
	holdTxns(t, es, want)
	holdError(t, append(slices.Clone(es), invoke(1, w(0, 999))), api.MaxEvents, api.ErrMany)
	// That there are too many is told ahead of what is wrong with one of them.
	holdError(t, make([]api.Event, api.MaxEvents+1), api.MaxEvents, api.ErrMany)
	holdError(t, make([]api.Event, 5000), api.MaxEvents, api.ErrMany)
	holdError(t, make([]api.Event, api.MaxEvents), 0, api.ErrEvent)
	bad := slices.Clone(es)
	bad[api.MaxEvents-1] = invoke(0, w(0, 999))
	holdError(t, bad, api.MaxEvents-1, api.ErrEvent)
}

func TestEventsThatAreNone(t *testing.T) {
	many := make([]api.Op, api.MaxOps+1)
	for i := range many {
		many[i] = r(i, 0)
	}
	unsound := []api.Op{
		{Kind: 0}, {Kind: 3}, {Kind: -1}, {Kind: math.MaxInt, Val: 1},
		r(-1, 0), r(16, 0), r(math.MinInt, 0), r(math.MaxInt, 0), w(-1, 1), w(16, 1),
		r(0, -1), r(0, api.MaxVal), r(0, math.MinInt), r(0, math.MaxInt),
		w(0, 0), w(0, -1), w(0, api.MaxVal), w(0, math.MinInt), w(0, math.MaxInt),
	}
	var bad []api.Event
	for _, kind := range []int{0, 5, -1, math.MinInt, math.MaxInt} {
		bad = append(bad, ev(kind, 1), ev(kind, 1, r(0, 0)))
	}
	for kind := api.Invoke; kind <= api.Info; kind++ {
		for _, client := range []int{0, 17, -1, math.MinInt, math.MaxInt} {
			bad = append(bad, ev(kind, client), ev(kind, client, r(0, 0)))
		}
		for _, op := range unsound {
			bad = append(bad, ev(kind, 1, op), ev(kind, 1, r(0, 0), w(1, 1), op), ev(kind, 1, op, r(0, 0)))
		}
		bad = append(bad, ev(kind, 1, many...), ev(kind, 1, make([]api.Op, 1<<12)...))
	}
	bad = append(bad, invoke(1), ok(1), invoke(1, r(0, 1)), invoke(1, r(0, api.MaxVal-1)), invoke(1, w(0, 1), r(0, 1)), invoke(1, r(0, 0), r(0, 1)))
	for _, b := range bad {
		holdError(t, []api.Event{b}, 0, api.ErrEvent)
		// ErrEvent comes ahead of ErrOrder and ErrOps, whoever has an open transaction.
		holdError(t, []api.Event{invoke(1, r(0, 0)), b}, 1, api.ErrEvent)
		holdError(t, []api.Event{invoke(2, w(3, 1)), invoke(1, r(0, 0)), fail(1), b, b}, 3, api.ErrEvent)
	}
}

func TestEventsOutOfTheirOrder(t *testing.T) {
	for _, end := range []api.Event{ok(1, r(0, 0)), fail(1), info(1), fail(1, r(0, 0)), info(1, r(0, 0)), ok(1, w(0, 9), r(0, 2))} {
		holdError(t, []api.Event{end}, 0, api.ErrOrder)
		holdError(t, []api.Event{invoke(2, r(0, 0)), end}, 1, api.ErrOrder)
		for _, first := range []api.Event{ok(1, r(0, 0)), fail(1), info(1)} {
			holdError(t, []api.Event{invoke(1, r(0, 0)), first, end}, 2, api.ErrOrder)
		}
	}
	holdError(t, []api.Event{invoke(1, r(0, 0)), invoke(1, r(0, 0))}, 1, api.ErrOrder)
	holdError(t, []api.Event{invoke(1, w(0, 5)), invoke(2, r(0, 0)), invoke(1, w(0, 5))}, 2, api.ErrOrder)
	for _, end := range []api.Event{ok(1, r(0, 0)), fail(1), info(1)} {
		if _, _, e := Of([]api.Event{invoke(1, r(0, 0)), end, invoke(1, r(0, 0))}); e != api.OK {
			t.Errorf("a second transaction behind %v: %d", end, e)
		}
	}
}

func TestAValueIsWrittenOnce(t *testing.T) {
	for _, end := range []api.Event{ok(1, w(0, 5)), fail(1), info(1), invoke(3, r(0, 0))} {
		for _, again := range []api.Event{invoke(2, w(0, 5)), invoke(2, w(1, 5)), invoke(2, r(0, 0), w(1, 6), w(2, 5))} {
			holdError(t, []api.Event{invoke(1, w(0, 5)), end, again}, 2, api.ErrTwice)
		}
	}
	holdError(t, []api.Event{invoke(1, w(0, 5)), fail(1), invoke(1, w(0, 5))}, 2, api.ErrTwice)
	holdError(t, []api.Event{invoke(1, w(0, 5), w(0, 5))}, 0, api.ErrTwice)
	holdError(t, []api.Event{invoke(1, w(0, 5), r(0, 0), w(1, 5))}, 0, api.ErrTwice)
	// What an Ok tells of a write was written by its Invoke; a value that is only read is not written.
	holdTxns(t, []api.Event{invoke(1, r(0, 0), w(0, 5)), ok(1, r(0, 6), w(0, 5)), invoke(1, w(0, 6))},
		[]api.Txn{txn(1, api.Done, r(0, 6), w(0, 5)), txn(1, api.Open, w(0, 6))})
}

func TestAnswersToSomethingElse(t *testing.T) {
	asked := invoke(4, r(1, 0), w(2, 5), r(3, 0))
	good := ok(4, r(1, 7), w(2, 5), r(3, 8))
	for _, bad := range []api.Event{
		ok(4, good.Ops[:2]...),
		ok(4, append(slices.Clone(good.Ops), r(3, 8))...),
		ok(4, r(2, 7), w(2, 5), r(3, 8)),
		ok(4, w(1, 7), w(2, 5), r(3, 8)),
		ok(4, r(1, 7), w(1, 5), r(3, 8)),
		ok(4, r(1, 7), w(2, 6), r(3, 8)),
		ok(4, r(1, 7), r(2, 5), r(3, 8)),
		ok(4, r(1, 7), w(2, 5), r(4, 8)),
		ok(4, w(2, 5), r(1, 7), r(3, 8)),
		fail(4, r(1, 0)), info(4, r(1, 0)), fail(4, asked.Ops...), info(4, good.Ops...),
	} {
		holdError(t, []api.Event{asked, bad}, 1, api.ErrOps)
		holdError(t, []api.Event{asked, invoke(3, r(0, 0)), bad, good}, 2, api.ErrOps)
	}
	holdTxns(t, []api.Event{asked, good}, []api.Txn{txn(4, api.Done, good.Ops...)})
}

func TestATransactionReadsItsOwnWrites(t *testing.T) {
	asked := []api.Op{r(0, 0), w(0, 1), r(0, 0), w(0, 2), w(1, 3), r(0, 0), r(1, 0), r(2, 0)}
	good := []api.Op{r(0, 9), w(0, 1), r(0, 1), w(0, 2), w(1, 3), r(0, 2), r(1, 3), r(2, 9)}
	holdTxns(t, []api.Event{invoke(1, asked...), ok(1, good...)}, []api.Txn{txn(1, api.Done, good...)})
	for _, c := range []struct{ at, val int }{{2, 0}, {2, 9}, {2, 2}, {5, 1}, {5, 0}, {5, 3}, {6, 2}, {6, 0}, {6, api.MaxVal - 1}} {
		told := slices.Clone(good)
		told[c.at].Val = c.val
		holdError(t, []api.Event{invoke(1, asked...), ok(1, told...)}, 1, api.ErrOwn)
	}
	// What another one wrote to the key is not its own.
	holdTxns(t, []api.Event{invoke(1, w(0, 1)), ok(1, w(0, 1)), invoke(1, r(0, 0)), ok(1, r(0, 0))},
		[]api.Txn{txn(1, api.Done, w(0, 1)), txn(1, api.Done, r(0, 0))})
}

func TestTheFirstErrorIsTold(t *testing.T) {
	asked := invoke(1, w(0, 1), r(0, 0), r(1, 0))
	for _, c := range []struct {
		es   []api.Event
		at   int
		want api.Errno
	}{
		// Op by op: what is wrong with the first of them.
		{[]api.Event{asked, ok(1, w(0, 1), r(0, 2), r(2, 0))}, 1, api.ErrOwn},
		{[]api.Event{asked, ok(1, w(0, 1), r(1, 2), r(0, 2))}, 1, api.ErrOps},
		{[]api.Event{asked, ok(1, w(0, 2), r(0, 3), r(1, 0))}, 1, api.ErrOps},
		// How many there are comes ahead of each of them.
		{[]api.Event{asked, ok(1, w(0, 1), r(0, 2))}, 1, api.ErrOps},
		{[]api.Event{asked, ok(1, w(0, 1), r(0, 2), r(1, 0), r(1, 0))}, 1, api.ErrOps},
		// A client that is busy writes nothing.
		{[]api.Event{asked, invoke(1, w(0, 1))}, 1, api.ErrOrder},
		{[]api.Event{asked, invoke(1, w(0, 1), w(0, 0))}, 1, api.ErrEvent},
		{[]api.Event{asked, invoke(2, w(0, 1), w(0, 0))}, 1, api.ErrEvent},
		// An earlier event comes ahead of a worse one.
		{[]api.Event{asked, invoke(2, w(3, 1)), {}}, 1, api.ErrTwice},
		{[]api.Event{fail(1), {}}, 0, api.ErrOrder},
		{[]api.Event{asked, info(1, r(0, 0)), invoke(1, r(0, 0))}, 1, api.ErrOps},
	} {
		holdError(t, c.es, c.at, c.want)
	}
}

func TestReadsOfOthersWrites(t *testing.T) {
	for _, c := range []struct{ ops, want []api.Op }{
		{nil, nil},
		{[]api.Op{w(0, 1)}, nil},
		{[]api.Op{r(5, 7), r(2, 0), r(9, 3)}, []api.Op{r(5, 7), r(2, 0), r(9, 3)}},
		// Each read of a key counts, not the first one alone.
		{[]api.Op{r(0, 7), r(0, 7), r(0, 8)}, []api.Op{r(0, 7), r(0, 7), r(0, 8)}},
		{[]api.Op{r(0, 7), w(0, 1), r(0, 1), r(1, 4), w(1, 2), r(1, 2), r(0, 1)}, []api.Op{r(0, 7), r(1, 4)}},
		{[]api.Op{w(0, 0), r(0, 0), r(1, 0)}, []api.Op{r(1, 0)}},
		{[]api.Op{{Kind: 3, Key: 1}, {Kind: 0, Key: 1}, {Kind: -1, Key: 1}, r(1, 5)}, []api.Op{r(1, 5)}},
		{[]api.Op{w(-1, 3), r(-1, 3), r(math.MinInt, -4), r(math.MaxInt, 2)}, []api.Op{r(math.MinInt, -4), r(math.MaxInt, 2)}},
	} {
		if got := Reads(txn(1, api.Done, c.ops...)); !slices.Equal(got, c.want) {
			t.Errorf("Reads of %v: %v, want %v", c.ops, got, c.want)
		}
		for _, state := range []int{api.Open, api.Gone, 3, -1} {
			if got := Reads(txn(1, state, c.ops...)); len(got) != 0 {
				t.Errorf("Reads of state %d: %v", state, got)
			}
		}
	}
}

func TestLastWritesByRisingKeys(t *testing.T) {
	for _, c := range []struct{ ops, want []api.Op }{
		{nil, nil},
		{[]api.Op{r(0, 1)}, nil},
		{[]api.Op{w(5, 1), w(2, 2), w(9, 3), r(3, 3), w(0, 4)}, []api.Op{w(0, 4), w(2, 2), w(5, 1), w(9, 3)}},
		{[]api.Op{w(1, 9), w(0, 8), w(1, 7), w(0, 6), w(1, 5)}, []api.Op{w(0, 6), w(1, 5)}},
		{[]api.Op{w(1, 4), r(1, 4), r(1, 9), r(0, 3)}, []api.Op{w(1, 4)}},
		{[]api.Op{w(1, 4), {Kind: 3, Key: 1, Val: 5}, {Kind: 0, Key: 2, Val: 5}}, []api.Op{w(1, 4)}},
		{[]api.Op{w(math.MaxInt, 1), w(-3, 0), w(math.MinInt, -2), w(0, 0), w(-3, 5)}, []api.Op{w(math.MinInt, -2), w(-3, 5), w(0, 0), w(math.MaxInt, 1)}},
	} {
		for _, state := range []int{api.Open, api.Done, api.Gone, 7} {
			if got := Writes(txn(1, state, c.ops...)); !slices.Equal(got, c.want) {
				t.Errorf("Writes of state %d and %v: %v, want %v", state, c.ops, got, c.want)
			}
		}
	}
}

// TestReadsAndWritesOfAnything holds them against the chapter's words, pair by pair of operations.
func TestReadsAndWritesOfAnything(t *testing.T) {
	source := rand.New(rand.NewSource(5))
	for range 3000 {
		ops := make([]api.Op, source.Intn(14))
		for i := range ops {
			ops[i] = api.Op{Kind: source.Intn(4), Key: source.Intn(5) - 1, Val: source.Intn(6)}
		}
		var reads, writes []api.Op
		for i, op := range ops {
			others := func(ops []api.Op) bool {
				return !slices.ContainsFunc(ops, func(o api.Op) bool { return o.Kind == api.Write && o.Key == op.Key })
			}
			if op.Kind == api.Read && others(ops[:i]) {
				reads = append(reads, op)
			}
			if op.Kind == api.Write && others(ops[i+1:]) {
				writes = append(writes, op)
			}
		}
		slices.SortFunc(writes, func(a, b api.Op) int { return a.Key - b.Key })
		done := txn(1, api.Done, ops...)
		if got := Reads(done); !slices.Equal(got, reads) {
			t.Fatalf("Reads of %v: %v, want %v", ops, got, reads)
		}
		if got := Writes(done); !slices.Equal(got, writes) {
			t.Fatalf("Writes of %v: %v, want %v", ops, got, writes)
		}
	}
}

func TestLongTransactionsEnd(t *testing.T) {
	ops := make([]api.Op, 1<<18)
	for i := range ops {
		ops[i] = api.Op{Kind: i%2 + 1, Key: i}
	}
	done := txn(1, api.Done, ops...)
	if len(Reads(done)) != 1<<17 || len(Writes(done)) != 1<<17 {
		t.Error("a long transaction:", len(Reads(done)), len(Writes(done)))
	}
}

func TestNothingIsSharedOrChanged(t *testing.T) {
	make2 := func() [][]api.Op {
		return [][]api.Op{
			{r(0, 0), w(1, 5), r(9, 9), r(9, 9)}, {w(2, 6), r(9, 9)}, {r(0, 3), w(1, 5), r(9, 9)},
		}
	}
	// Behind the end of each list there is room, in which something stands.
	rooms := make2()
	es := []api.Event{invoke(1, rooms[0][:2]...), invoke(2, rooms[1][:1]...), ok(1, rooms[2][:2]...)}
	ts, _, e := Of(es)
	if e != api.OK || !reflect.DeepEqual(rooms, make2()) {
		t.Fatal("what was handed in is changed", e, rooms)
	}
	reads, writes := Reads(ts[0]), Writes(ts[0])
	for _, list := range [][]api.Op{reads, writes} {
		clear(list[:cap(list)])
	}
	if !slices.Equal(ts[0].Ops, []api.Op{r(0, 3), w(1, 5)}) {
		t.Error("Reads or Writes share the transaction's memory", ts[0])
	}
	clear(ts[0].Ops[:cap(ts[0].Ops)])
	if !slices.Equal(ts[1].Ops, []api.Op{w(2, 6)}) {
		t.Error("two transactions share memory", ts[1])
	}
	clear(ts[1].Ops[:cap(ts[1].Ops)])
	if !reflect.DeepEqual(rooms, make2()) {
		t.Error("an answer shares an argument's memory", rooms)
	}
	ts, _, _ = Of(es)
	for _, room := range rooms {
		clear(room)
	}
	if !slices.EqualFunc(ts, []api.Txn{txn(1, api.Done, r(0, 3), w(1, 5)), txn(2, api.Open, w(2, 6))}, sameTxn) {
		t.Error("what was handed in is kept", ts)
	}
}
