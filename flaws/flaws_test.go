package flaws

import (
	"math"
	"reflect"
	"slices"
	"testing"

	"crucible/api"
)

func r(key, val int) api.Op { return api.Op{Kind: api.Read, Key: key, Val: val} }
func w(key, val int) api.Op { return api.Op{Kind: api.Write, Key: key, Val: val} }

func txn(state int, ops ...api.Op) api.Txn { return api.Txn{Client: 1, State: state, Ops: ops} }
func open(ops ...api.Op) api.Txn           { return txn(api.Open, ops...) }
func done(ops ...api.Op) api.Txn           { return txn(api.Done, ops...) }
func gone(ops ...api.Op) api.Txn           { return txn(api.Gone, ops...) }

func holdSource(t *testing.T, ts []api.Txn, key, val, want int, found bool) {
	t.Helper()
	if got, ok := Source(ts, key, val); got != want || ok != found {
		t.Errorf("Source(%v, %d, %d): %d, %v, want %d, %v", ts, key, val, got, ok, want, found)
	}
}

func holdFlaws(t *testing.T, ts []api.Txn, want ...Flaw) {
	t.Helper()
	if got := All(ts); !slices.Equal(got, want) {
		t.Errorf("All(%v): %v, want %v", ts, got, want)
	}
}

func holdSure(t *testing.T, ts []api.Txn, want ...bool) {
	t.Helper()
	if got := Sure(ts); !slices.Equal(got, want) {
		t.Errorf("Sure(%v): %v, want %v", ts, got, want)
	}
}

func TestTheDocumentsExample(t *testing.T) {
	ts := []api.Txn{gone(w(0, 5)), done(r(0, 5))}
	holdFlaws(t, ts, Flaw{Txn: 1, Read: 0, Kind: Aborted})
	holdSure(t, ts, false, true)
	ts[0].State = api.Open
	holdFlaws(t, ts)
	holdSure(t, ts, true, true)
}

func TestTheKindsAreCounted(t *testing.T) {
	if Thin != 1 || Aborted != 2 || Between != 3 {
		t.Error(Thin, Aborted, Between)
	}
}

func TestNoTransactions(t *testing.T) {
	for _, ts := range [][]api.Txn{nil, {}} {
		holdFlaws(t, ts)
		holdSure(t, ts)
		holdSource(t, ts, 0, 0, -1, true)
		holdSource(t, ts, 0, 1, 0, false)
	}
}

func TestWhoWroteAValue(t *testing.T) {
	ts := []api.Txn{open(w(0, 1)), gone(w(1, 2), w(1, 3)), done(r(2, 9), w(15, api.MaxVal-1), w(0, 4), r(0, 4))}
	holdSource(t, ts, 0, 1, 0, true)
	// Whatever became of who wrote it, and whatever it wrote there later.
	holdSource(t, ts, 1, 2, 1, true)
	holdSource(t, ts, 1, 3, 1, true)
	holdSource(t, ts, 0, 4, 2, true)
	holdSource(t, ts, 15, api.MaxVal-1, 2, true)
	// 0 is of nobody, whatever the key.
	for _, key := range []int{0, 7, 15, 16, -1, math.MinInt, math.MaxInt} {
		holdSource(t, ts, key, 0, -1, true)
		holdSource(t, ts, key, 5, 0, false)
		holdSource(t, ts, key, -1, 0, false)
		holdSource(t, ts, key, math.MinInt, 0, false)
		holdSource(t, ts, key, math.MaxInt, 0, false)
	}
	// A value of another key, and one that was read alone.
	holdSource(t, ts, 1, 1, 0, false)
	holdSource(t, ts, 0, 2, 0, false)
	holdSource(t, ts, 2, 9, 0, false)
}

func TestReadsThatHaveNoFlaw(t *testing.T) {
	holdFlaws(t, []api.Txn{done(r(0, 0), r(15, 0))})
	holdFlaws(t, []api.Txn{done(r(0, 2)), done(w(0, 1), w(0, 2), w(1, 3)), done(r(0, 2), r(1, 3), r(1, 3))})
	holdFlaws(t, []api.Txn{open(w(0, 1), w(0, 2)), done(r(0, 2))})
	// Two that read each other's writes are a cycle, and no flaw.
	holdFlaws(t, []api.Txn{done(r(0, 1), w(1, 2)), done(r(1, 2), w(0, 1))})
	// What a transaction reads of its own writes, behind them, isn't one of its reads.
	holdFlaws(t, []api.Txn{done(w(0, 1), r(0, 1), w(0, 2), r(0, 2))})
	// Others than those that are done have no reads.
	holdFlaws(t, []api.Txn{gone(w(0, 1)), gone(r(0, 0), w(1, 2)), open(r(0, 0), w(1, 3))})
}

func TestReadsOfWhatNobodyWrote(t *testing.T) {
	holdFlaws(t, []api.Txn{done(r(0, 9))}, Flaw{0, 0, Thin})
	// It is written to another key.
	holdFlaws(t, []api.Txn{done(w(1, 9)), done(r(0, 9)), done(r(1, 9))}, Flaw{1, 0, Thin})
	// It is read by another one alone.
	holdFlaws(t, []api.Txn{done(r(3, 9)), done(r(3, 9))}, Flaw{0, 0, Thin}, Flaw{1, 0, Thin})
	// The transaction itself writes it, behind the read; that comes ahead of Between.
	holdFlaws(t, []api.Txn{done(r(0, 9), w(0, 9))}, Flaw{0, 0, Thin})
	holdFlaws(t, []api.Txn{done(r(0, 9), w(0, 9), w(0, 8))}, Flaw{0, 0, Thin})
	// To another key it doesn't.
	holdFlaws(t, []api.Txn{done(r(0, 9), w(1, 9))}, Flaw{0, 0, Thin})
}

func TestReadsOfWhatWasNotDone(t *testing.T) {
	ts := []api.Txn{done(r(0, 1)), gone(w(0, 1), w(1, 2)), done(r(1, 2)), done(r(1, 0))}
	holdFlaws(t, ts, Flaw{0, 0, Aborted}, Flaw{2, 0, Aborted})
	holdSure(t, ts, true, false, true, true)
	// Aborted comes ahead of Between.
	holdFlaws(t, []api.Txn{gone(w(0, 1), w(0, 2)), done(r(0, 1)), done(r(0, 2))}, Flaw{1, 0, Aborted}, Flaw{2, 0, Aborted})
}

func TestReadsOfWhatWasWrittenOver(t *testing.T) {
	for _, state := range []int{api.Open, api.Done} {
		ts := []api.Txn{txn(state, w(0, 1), w(1, 2), w(0, 3), w(1, 4), w(0, 5)), done(r(0, 1)), done(r(1, 2)), done(r(0, 3)), done(r(1, 4)), done(r(0, 5))}
		holdFlaws(t, ts, Flaw{1, 0, Between}, Flaw{2, 0, Between}, Flaw{3, 0, Between})
	}
	// A write of another one, behind it, is nothing to it.
	holdFlaws(t, []api.Txn{done(w(0, 1)), done(w(0, 2)), done(r(0, 1))})
}

// TestWhichReadIsTold counts the reads of layer 5, those of 0 and those without a flaw, too.
func TestWhichReadIsTold(t *testing.T) {
	ts := []api.Txn{
		gone(w(0, 1)), open(w(1, 2), w(1, 3)),
		done(r(2, 0), r(1, 3), r(0, 1), r(1, 2), r(0, 1), r(3, 7)),
		done(w(4, 4), r(4, 4), r(0, 0), w(0, 5), r(0, 5), r(1, 2), r(4, 4), r(3, 8)),
	}
	holdFlaws(t, ts,
		Flaw{2, 2, Aborted}, Flaw{2, 3, Between}, Flaw{2, 4, Aborted}, Flaw{2, 5, Thin},
		Flaw{3, 1, Between}, Flaw{3, 2, Thin})
}

func TestWhoIsSure(t *testing.T) {
	holdSure(t, []api.Txn{done(w(0, 1)), done(r(0, 0)), gone(w(0, 2)), open(w(0, 3)), open(r(0, 0))}, true, true, false, false, false)
	// A read of any of its writes does, wherever it stands; one of another key's value doesn't.
	holdSure(t, []api.Txn{done(r(0, 1)), open(w(0, 1), w(0, 2)), open(w(1, 3), w(2, 4)), open(w(0, 5)), done(r(3, 0), r(2, 4), r(1, 5))},
		true, true, true, false, true)
	// What is gone stays so, though it was read.
	holdSure(t, []api.Txn{gone(w(0, 1)), done(r(0, 1))}, false, true)
	// Those that are open or gone have read nothing, as long as nobody was told.
	holdSure(t, []api.Txn{open(w(0, 1)), open(r(0, 0)), gone(r(0, 0))}, false, false, false)
	// One that is sure by another one's read makes nobody sure: what it read is not known.
	holdSure(t, []api.Txn{open(w(0, 1)), open(r(0, 0), w(1, 2)), done(r(1, 2))}, false, true, true)
}

func TestNothingIsSharedOrChanged(t *testing.T) {
	make2 := func() []api.Txn {
		return []api.Txn{
			open(w(0, 1), w(0, 2), w(9, 9)), done(r(0, 1), r(3, 3), r(8, 8)), gone(w(1, 4), w(9, 9)), done(w(9, 9)),
		}
	}
	// Behind the end of each list there is room, in which something stands.
	room := make2()
	ts := room[:3]
	for i := range ts {
		ts[i].Ops = ts[i].Ops[:len(ts[i].Ops)-1]
	}
	all, sure := All(ts), Sure(ts)
	if at, ok := Source(ts, 9, 9); at != 0 || ok {
		t.Error("the room behind a list's end is read", at, ok)
	}
	if !slices.Equal(all, []Flaw{{1, 0, Between}, {1, 1, Thin}}) || !slices.Equal(sure, []bool{true, true, false}) {
		t.Fatal(all, sure)
	}
	for i := range ts {
		ts[i].Ops = ts[i].Ops[:len(ts[i].Ops)+1]
	}
	if !reflect.DeepEqual(room, make2()) {
		t.Error("what was handed in is changed", room)
	}
	clear(all[:cap(all)])
	clear(sure[:cap(sure)])
	if !slices.Equal(Sure(ts), []bool{true, true, false}) || len(All(ts)) != 3 {
		t.Error("an answer is kept")
	}
}
