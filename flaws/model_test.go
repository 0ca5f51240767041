package flaws

import (
	"math/rand"
	"slices"
	"testing"

	"crucible/api"
	"crucible/hist"
)

// writesThere tells whether a transaction writes what a read has read.
func writesThere(t api.Txn, read api.Op) bool {
	return slices.Contains(t.Ops, w(read.Key, read.Val))
}

// modelKind is the chapter's words of one read.
func modelKind(ts []api.Txn, at int, read api.Op) int {
	if read.Val == 0 {
		return 0
	}
	by := slices.IndexFunc(ts, func(t api.Txn) bool { return writesThere(t, read) })
	switch {
	case by < 0 || by == at:
		return Thin
	case ts[by].State == api.Gone:
		return Aborted
	case !slices.Contains(hist.Writes(ts[by]), w(read.Key, read.Val)):
		return Between
	}
	return 0
}

func modelAll(ts []api.Txn) []Flaw {
	var all []Flaw
	for at, t := range ts {
		for i, read := range hist.Reads(t) {
			if kind := modelKind(ts, at, read); kind != 0 {
				all = append(all, Flaw{Txn: at, Read: i, Kind: kind})
			}
		}
	}
	return all
}

func modelSure(ts []api.Txn) []bool {
	var sure []bool
	for _, t := range ts {
		read := slices.ContainsFunc(ts, func(by api.Txn) bool {
			return slices.ContainsFunc(hist.Reads(by), func(op api.Op) bool { return writesThere(t, op) })
		})
		sure = append(sure, t.State == api.Done || t.State == api.Open && read)
	}
	return sure
}

// drawn is a history in which reads often see what somebody writes to the key, ahead of them or behind.
func drawn(source *rand.Rand) []api.Event {
	keys, val := source.Intn(4)+1, 0
	var es []api.Event
	var ends []api.Event
	for client := range source.Intn(api.MaxClients) + 1 {
		ops := make([]api.Op, source.Intn(6)+1)
		for i := range ops {
			ops[i] = r(source.Intn(keys), 0)
			if source.Intn(2) == 0 {
				val++
				ops[i] = w(source.Intn(keys), val)
			}
		}
		es = append(es, api.Event{Kind: api.Invoke, Client: client + 1, Ops: ops})
		ends = append(ends, api.Event{Kind: source.Intn(4), Client: client + 1, Ops: ops})
	}
	for _, end := range ends {
		switch end.Kind {
		case api.Ok:
			end.Ops = told(source, end.Ops, es)
		case api.Fail, api.Info:
			end.Ops = nil
		default:
			if source.Intn(2) == 0 {
				continue
			}
			end.Kind, end.Ops = api.Ok, told(source, end.Ops, es)
		}
		es = append(es, end)
	}
	return es
}

// told is operations with what their reads read: their own writes, or something that somebody writes there, or anything.
func told(source *rand.Rand, asked []api.Op, es []api.Event) []api.Op {
	ops := slices.Clone(asked)
	for i, op := range ops {
		if op.Kind != api.Read {
			continue
		}
		own := -1
		for _, ahead := range ops[:i] {
			if ahead.Kind == api.Write && ahead.Key == op.Key {
				own = ahead.Val
			}
		}
		var there []int
		for _, ev := range es {
			for _, by := range ev.Ops {
				if by.Kind == api.Write && by.Key == op.Key {
					there = append(there, by.Val)
				}
			}
		}
		switch {
		case own >= 0:
			ops[i].Val = own
		case len(there) > 0 && source.Intn(6) > 0:
			ops[i].Val = there[source.Intn(len(there))]
		default:
			ops[i].Val = source.Intn(40)
		}
	}
	return ops
}

func TestHistoriesAsTheChapterSays(t *testing.T) {
	source := rand.New(rand.NewSource(8))
	kinds, sures := map[int]int{}, map[bool]int{}
	for range 3000 {
		es := drawn(source)
		ts, at, e := hist.Of(es)
		if e != api.OK {
			t.Fatalf("%v: %d at %d", es, e, at)
		}
		all, sure := modelAll(ts), modelSure(ts)
		if got := All(ts); !slices.Equal(got, all) {
			t.Fatalf("All(%v): %v, want %v", ts, got, all)
		}
		if got := Sure(ts); !slices.Equal(got, sure) {
			t.Fatalf("Sure(%v): %v, want %v", ts, got, sure)
		}
		for _, f := range all {
			kinds[f.Kind]++
		}
		for i, is := range sure {
			if ts[i].State == api.Open {
				sures[is]++
			}
		}
		holdSources(t, ts)
	}
	if kinds[Thin] < 100 || kinds[Aborted] < 100 || kinds[Between] < 100 || sures[true] < 100 || sures[false] < 100 {
		t.Error("too few of a kind:", kinds, sures)
	}
}

// holdSources asks of all small keys and values who wrote them.
func holdSources(t *testing.T, ts []api.Txn) {
	t.Helper()
	for key := range 5 {
		for val := range 20 {
			by := slices.IndexFunc(ts, func(t api.Txn) bool { return writesThere(t, r(key, val)) })
			if val == 0 {
				holdSource(t, ts, key, val, -1, true)
			} else {
				holdSource(t, ts, key, val, max(by, 0), by >= 0)
			}
		}
	}
}

// TestAnythingEnds hands in what no history tells: values twice, other kinds and states, long transactions.
func TestAnythingEnds(t *testing.T) {
	source := rand.New(rand.NewSource(9))
	for range 3000 {
		ts := make([]api.Txn, source.Intn(8))
		for i := range ts {
			ts[i] = txn(source.Intn(5) - 1)
			for range source.Intn(8) {
				ts[i].Ops = append(ts[i].Ops, api.Op{Kind: source.Intn(4), Key: source.Intn(4) - 1, Val: source.Intn(5) - 1})
			}
		}
		All(ts)
		if got := Sure(ts); len(got) != len(ts) {
			t.Fatalf("Sure(%v): %v", ts, got)
		}
		Source(ts, source.Intn(4)-1, source.Intn(5)-1)
	}
	long := make([]api.Op, 1<<17)
	for i := range long {
		long[i] = api.Op{Kind: i%2 + 1, Key: i / 2, Val: 1 + i/2}
	}
	ts := []api.Txn{done(long...), open(long...), done(long...)}
	if got := len(Sure(ts)); got != 3 {
		t.Error("Sure", got)
	}
	All(ts)
	Source(ts, -1, -1)
}
