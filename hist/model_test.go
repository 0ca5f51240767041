package hist

import (
	"math/rand"
	"slices"
	"testing"

	"crucible/api"
)

// lastOf is the place of a client's last event ahead of at, or -1.
func lastOf(es []api.Event, at int) int {
	for i := at - 1; i >= 0; i-- {
		if es[i].Client == es[at].Client {
			return i
		}
	}
	return -1
}

// wrongAt is what the chapter says of the event at a place, all ahead of it being right; it looks back instead of keeping anything.
func wrongAt(es []api.Event, at int) api.Errno {
	ev := es[at]
	none := !slices.Contains([]int{api.Invoke, api.Ok, api.Fail, api.Info}, ev.Kind) || ev.Client < 1 || ev.Client > 16 || len(ev.Ops) > 12
	none = none || len(ev.Ops) == 0 && ev.Kind <= api.Ok
	for _, op := range ev.Ops {
		none = none || op.Kind != api.Read && op.Kind != api.Write || op.Key < 0 || op.Key > 15 || op.Val < 0 || op.Val > 1<<40-1
		none = none || op.Kind == api.Write && op.Val == 0
		none = none || op.Kind == api.Read && ev.Kind == api.Invoke && op.Val != 0
	}
	if none {
		return api.ErrEvent
	}
	last := lastOf(es, at)
	if open := last >= 0 && es[last].Kind == api.Invoke; open == (ev.Kind == api.Invoke) {
		return api.ErrOrder
	}
	switch ev.Kind {
	case api.Invoke:
		return wrongInvoke(es, at)
	case api.Ok:
		return wrongOk(es[last].Ops, ev.Ops)
	}
	if len(ev.Ops) != 0 {
		return api.ErrOps
	}
	return api.OK
}

func wrongInvoke(es []api.Event, at int) api.Errno {
	var values []int
	for i := range at + 1 {
		for _, op := range es[i].Ops {
			if es[i].Kind == api.Invoke && op.Kind == api.Write {
				values = append(values, op.Val)
			}
		}
	}
	slices.Sort(values)
	if len(slices.Compact(slices.Clone(values))) != len(values) {
		return api.ErrTwice
	}
	return api.OK
}

func wrongOk(asked, told []api.Op) api.Errno {
	if len(asked) != len(told) {
		return api.ErrOps
	}
	for i, op := range told {
		if op.Kind != asked[i].Kind || op.Key != asked[i].Key || op.Kind == api.Write && op.Val != asked[i].Val {
			return api.ErrOps
		}
		for j := i - 1; j >= 0 && op.Kind == api.Read; j-- {
			if told[j].Kind == api.Write && told[j].Key == op.Key {
				if told[j].Val != op.Val {
					return api.ErrOwn
				}
				break
			}
		}
	}
	return api.OK
}

// modelOf is Of by the chapter's words.
func modelOf(es []api.Event) ([]api.Txn, int, api.Errno) {
	for at := range es {
		if e := wrongAt(es, at); e != api.OK {
			return nil, at, e
		}
	}
	var ts []api.Txn
	for i, ev := range es {
		if ev.Kind != api.Invoke {
			continue
		}
		t := api.Txn{Client: ev.Client, Ops: ev.Ops}
		for _, end := range es[i+1:] {
			if end.Client != ev.Client {
				continue
			}
			switch end.Kind {
			case api.Ok:
				t.State, t.Ops = api.Done, end.Ops
			case api.Fail:
				t.State = api.Gone
			}
			break
		}
		ts = append(ts, t)
	}
	return ts, 0, api.OK
}

// drawn makes a history without a fault.
type drawn struct {
	source  *rand.Rand
	clients int
	events  []api.Event
	open    map[int][]api.Op
	val     int
}

func (d *drawn) step() {
	client := 1 + d.source.Intn(d.clients)
	asked, busy := d.open[client]
	if !busy {
		d.begin(client)
		return
	}
	delete(d.open, client)
	kind := api.Ok + d.source.Intn(3)
	if kind != api.Ok {
		d.events = append(d.events, ev(kind, client))
		return
	}
	told, own := slices.Clone(asked), map[int]int{}
	for i, op := range told {
		if op.Kind == api.Write {
			own[op.Key] = op.Val
		} else if val, wrote := own[op.Key]; wrote {
			told[i].Val = val
		} else {
			told[i].Val = d.source.Intn(d.val + 1)
		}
	}
	d.events = append(d.events, ok(client, told...))
}

func (d *drawn) begin(client int) {
	// Few keys, so that a transaction often reads what it wrote.
	ops, keys := make([]api.Op, d.source.Intn(12)+1), d.source.Intn(16)+1
	for i := range ops {
		ops[i] = r(d.source.Intn(keys), 0)
		if d.source.Intn(2) == 0 {
			d.val++
			ops[i] = w(d.source.Intn(keys), d.val)
		}
	}
	d.open[client] = ops
	d.events = append(d.events, invoke(client, ops...))
}

// spoil turns one thing of one event, most often to something that may stand there.
func spoil(source *rand.Rand, es []api.Event) {
	e := &es[source.Intn(len(es))]
	e.Ops = slices.Clone(e.Ops)
	switch source.Intn(12) {
	case 0:
		e.Kind = source.Intn(6)
	case 1:
		e.Client = source.Intn(18)
	case 2:
		e.Ops = append(e.Ops, w(source.Intn(16), source.Intn(40)))
	case 3:
		e.Ops = append(e.Ops, r(source.Intn(16), 0))
	case 4:
		e.Ops = e.Ops[:source.Intn(len(e.Ops)+1)]
	case 5:
		i, j := source.Intn(len(es)), source.Intn(len(es))
		es[i], es[j] = es[j], es[i]
	case 6, 7, 8:
		for i, op := range e.Ops {
			if op.Kind == api.Read && e.Kind == api.Ok && source.Intn(4) == 0 {
				e.Ops[i].Val ^= 1
			}
		}
	default:
		if len(e.Ops) > 0 {
			op := &e.Ops[source.Intn(len(e.Ops))]
			switch source.Intn(4) {
			case 0:
				op.Kind = source.Intn(4)
			case 1:
				op.Key = source.Intn(18) - 1
			case 2:
				op.Val = source.Intn(60) - 1
			case 3:
				op.Val = 1<<40 - 2 + source.Intn(4)
			}
		}
	}
}

// TestOfIsTheChapters holds Of against its model: at histories, and at ones that were spoilt, often in more than one way.
func TestOfIsTheChapters(t *testing.T) {
	source := rand.New(rand.NewSource(6))
	seen := map[api.Errno]int{}
	for turn := range 6000 {
		d := &drawn{source: source, clients: turn%16 + 1, open: map[int][]api.Op{}}
		for range source.Intn(60) + 1 {
			d.step()
		}
		for range turn % 5 {
			spoil(source, d.events)
		}
		want, place, wrong := modelOf(d.events)
		seen[wrong]++
		if turn%5 == 0 && wrong != api.OK {
			t.Fatalf("%v: %d at %d", d.events, wrong, place)
		}
		ts, at, e := Of(d.events)
		if e != wrong || at != place || !slices.EqualFunc(ts, want, sameTxn) {
			t.Fatalf("Of(%v): %v, %d, %d, want %v, %d, %d", d.events, ts, at, e, want, place, wrong)
		}
	}
	for _, e := range []api.Errno{api.OK, api.ErrEvent, api.ErrOrder, api.ErrTwice, api.ErrOps, api.ErrOwn} {
		if seen[e] < 20 {
			t.Errorf("error %d was met %d times", e, seen[e])
		}
	}
}
