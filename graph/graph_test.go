package graph

import (
	"math"
	"slices"
	"testing"
)

// arcsOf is the arcs between pairs of numbers, one behind the other.
func arcsOf(pairs ...int) []Arc {
	var arcs []Arc
	for i := 0; i+1 < len(pairs); i += 2 {
		arcs = append(arcs, Arc{From: pairs[i], To: pairs[i+1]})
	}
	return arcs
}

// ring is the arcs from each of the nodes to the one behind it, and from the last to the first.
func ring(nodes ...int) []Arc {
	var arcs []Arc
	for i, node := range nodes {
		arcs = append(arcs, Arc{From: node, To: nodes[(i+1)%len(nodes)]})
	}
	return arcs
}

// upTo is the numbers from 0 on, n of them.
func upTo(n int) []int {
	list := make([]int, n)
	for i := range list {
		list[i] = i
	}
	return list
}

// rising is an arc from each node to each greater one.
func rising(n int) []Arc {
	var arcs []Arc
	for i := range n {
		for j := range i {
			arcs = append(arcs, Arc{From: j, To: i})
		}
	}
	return arcs
}

func holdCycle(t *testing.T, n int, arcs []Arc, want ...int) {
	t.Helper()
	if got := Cycle(n, arcs); !slices.Equal(got, want) {
		t.Errorf("Cycle(%d, %d arcs): %v, want %v", n, len(arcs), got, want)
	}
}

func holdOrder(t *testing.T, n int, arcs []Arc, want ...int) {
	t.Helper()
	if got, ok := Order(n, arcs); !ok || !slices.Equal(got, want) {
		t.Errorf("Order(%d, %d arcs): %v, %v, want %v", n, len(arcs), got, ok, want)
	}
}

func holdNoOrder(t *testing.T, n int, arcs []Arc) {
	t.Helper()
	if got, ok := Order(n, arcs); ok || len(got) != 0 {
		t.Errorf("Order(%d, %d arcs): %v, %v, want none", n, len(arcs), got, ok)
	}
}

func TestTheDocumentsExamples(t *testing.T) {
	holdCycle(t, 3, arcsOf(0, 1, 1, 2, 2, 0, 2, 1), 1, 2)
	holdOrder(t, 3, arcsOf(2, 0, 1, 0), 1, 2, 0)
}

func TestHowManyNodesThereAre(t *testing.T) {
	arcs := arcsOf(0, 0, 399, 0, 400, 400, -1, -1, 399, 399)
	for _, c := range []struct{ n, nodes int }{
		{0, 0}, {-1, 0}, {math.MinInt, 0}, {1, 1}, {399, 399}, {400, 400}, {401, 400}, {math.MaxInt, 400},
	} {
		reach := Reach(c.n, arcs)
		if len(reach) != c.nodes {
			t.Errorf("Reach of %d nodes has %d", c.n, len(reach))
		}
		for _, row := range reach {
			if len(row) != c.nodes {
				t.Errorf("Reach of %d nodes has a row of %d", c.n, len(row))
			}
		}
		order, ok := Order(c.n, nil)
		if !ok || !slices.Equal(order, upTo(c.nodes)) {
			t.Errorf("Order of %d nodes: %v, %v", c.n, order, ok)
		}
		if got := Is(c.n, arcs, []int{0}); got != (c.nodes > 0) {
			t.Errorf("Is of %d nodes and 0: %v", c.n, got)
		}
		if got := Is(c.n, arcs, []int{399}); got != (c.nodes > 399) {
			t.Errorf("Is of %d nodes and 399: %v", c.n, got)
		}
		if Is(c.n, arcs, []int{400}) || Is(c.n, arcs, []int{-1}) || Is(c.n, arcs, []int{}) {
			t.Errorf("Is of %d nodes and what is none", c.n)
		}
		if c.nodes == 0 {
			holdCycle(t, c.n, arcs)
		} else {
			holdCycle(t, c.n, arcs, 0)
		}
		// The last node that there may be has an arc that counts; the one behind it has none.
		if c.nodes > 399 {
			holdCycle(t, c.n, arcs[1:], 399)
			holdNoOrder(t, c.n, arcs[1:])
		} else {
			holdCycle(t, c.n, arcs[1:])
			holdOrder(t, c.n, arcs[1:], upTo(c.nodes)...)
		}
	}
}

func TestArcsOfOtherNodesDoNotCount(t *testing.T) {
	far := arcsOf(0, 3, 3, 1, 1, -1, -1, 0, 3, 3, math.MinInt, 1, 1, math.MaxInt, math.MaxInt, 0, 2, math.MinInt, -1, 1)
	for _, row := range Reach(3, far) {
		if slices.Contains(row, true) {
			t.Error("Reach by arcs that don't count", row)
		}
	}
	holdCycle(t, 3, far)
	holdOrder(t, 3, far, 0, 1, 2)
	for _, list := range [][]int{{3}, {0, 3, 1, -1}, {-1, 0}, {math.MinInt, 1, math.MaxInt}} {
		if Is(3, far, list) {
			t.Error("Is of arcs that don't count", list)
		}
	}
}

func TestTheSameArcTwiceIsOne(t *testing.T) {
	arcs := arcsOf(2, 0, 2, 0, 1, 0, 2, 1, 2, 0, 1, 0)
	holdOrder(t, 3, arcs, 2, 1, 0)
	holdCycle(t, 3, arcs)
	many := slices.Repeat(arcsOf(1, 2, 2, 3, 3, 1, 0, 1), 1<<18)
	holdCycle(t, 4, many, 1, 2, 3)
	holdNoOrder(t, 4, many)
	holdOrder(t, 4, slices.Repeat(arcsOf(3, 2, 2, 0), 1<<18), 1, 3, 2, 0)
	if !Is(4, many, []int{2, 3, 1}) || len(Reach(4, many)) != 4 {
		t.Error("many arcs")
	}
}

func TestReachTakesOneArcOrMore(t *testing.T) {
	reach := Reach(5, arcsOf(0, 1, 1, 2, 2, 1, 3, 3))
	want := [][]int{{1, 2}, {1, 2}, {1, 2}, {3}, {}}
	for from, row := range reach {
		for to, got := range row {
			if got != slices.Contains(want[from], to) {
				t.Errorf("from %d to %d: %v", from, to, got)
			}
		}
	}
}

func TestWhichListIsACycle(t *testing.T) {
	arcs := slices.Concat(ring(0, 1, 2, 3), arcsOf(2, 0, 4, 4, 3, 4, 4, 0))
	for _, list := range [][]int{{0, 1, 2, 3}, {2, 3, 0, 1}, {0, 1, 2}, {1, 2, 0}, {4}, {3, 4, 0, 1, 2}} {
		if !Is(5, arcs, list) {
			t.Error("Is not", list)
		}
	}
	for _, list := range [][]int{
		nil, {}, {0}, {0, 1}, {3, 2, 1, 0}, {0, 2, 1}, {0, 1, 3}, {4, 4}, {0, 1, 2, 0, 1, 2}, {0, 1, 2, 3, 0, 1, 2},
		{3, 4, 4, 0, 1, 2}, {0, 1, 2, 5}, {5, 0, 1, 2}, {-1}, {0, 1, 2, -1}, {math.MaxInt}, {math.MinInt, 0}, make([]int, 1<<20),
	} {
		if Is(5, arcs, list) {
			t.Error("Is", list[:min(len(list), 9)])
		}
	}
	if !Is(400, ring(upTo(400)...), upTo(400)) || Is(400, ring(upTo(400)...), append(upTo(400), 0)) {
		t.Error("Is of the longest cycle")
	}
}

func TestTheFirstOfTheShortestCycles(t *testing.T) {
	holdCycle(t, 6, nil)
	holdCycle(t, 6, arcsOf(0, 1, 1, 2, 0, 2, 3, 2))
	// An arc to oneself is a cycle of one.
	holdCycle(t, 6, slices.Concat(ring(0, 1), arcsOf(5, 5, 4, 4)), 4)
	// The shorter one, though its nodes are greater.
	holdCycle(t, 6, slices.Concat(ring(0, 1, 2), ring(4, 5)), 4, 5)
	// The one that begins lesser, wherever the arcs stand.
	holdCycle(t, 6, slices.Concat(ring(4, 5), ring(3, 5), ring(4, 3)), 3, 4)
	// The one that goes on lesser, not the one that comes back from lesser.
	holdCycle(t, 6, slices.Concat(ring(0, 5, 1), ring(0, 2, 4)), 0, 2, 4)
	holdCycle(t, 6, slices.Concat(ring(0, 3, 2, 4), ring(0, 3, 1, 5)), 0, 3, 1, 5)
	// An arc to a lesser one that doesn't come back in time.
	holdCycle(t, 6, slices.Concat(ring(0, 4, 5), arcsOf(0, 1, 1, 2, 2, 3, 3, 0)), 0, 4, 5)
	holdCycle(t, 6, slices.Concat(ring(5, 3, 4), arcsOf(0, 5, 0, 1, 3, 1, 4, 2)), 3, 4, 5)
}

func TestTheGreatestGraphs(t *testing.T) {
	nodes := upTo(Most)
	back := slices.Clone(nodes)
	slices.Reverse(back[1:])
	holdCycle(t, Most, ring(nodes...), nodes...)
	holdCycle(t, Most, ring(back...), back...)
	holdNoOrder(t, Most, ring(nodes...))
	holdOrder(t, Most, rising(Most), nodes...)
	holdCycle(t, Most, rising(Most))
	holdCycle(t, Most, append(rising(Most), Arc{From: 399, To: 1}), 1, 399)
	var down []Arc
	for _, a := range rising(Most) {
		down = append(down, Arc{From: a.To, To: a.From})
	}
	falling := slices.Clone(nodes)
	slices.Reverse(falling)
	holdOrder(t, Most, down, falling...)
	holdCycle(t, Most, slices.Concat(down, arcsOf(7, 9)), 7, 9)
	holdCycle(t, Most, slices.Concat(down, rising(Most)), 0, 1)
	holdNoOrder(t, Most, slices.Concat(down, rising(Most)))
	// Arcs to all lesser ones but the next few, and a long way up: the search for a short cycle goes far.
	var steep []Arc
	for _, a := range down {
		if a.From < 200 {
			steep = append(steep, a)
		}
	}
	long := slices.Concat(steep, ring(slices.Concat([]int{199}, nodes[200:])...))
	holdCycle(t, Most, long, nodes[199:]...)
	for _, row := range Reach(Most, slices.Concat(down, arcsOf(0, 399))) {
		if slices.Contains(row, false) {
			t.Fatal("Reach: all get everywhere", row)
		}
	}
}

func TestNothingIsSharedOrChanged(t *testing.T) {
	make1 := func() []Arc { return slices.Concat(ring(2, 1, 0), arcsOf(2, 1, 9, 9, 1, 1)) }
	room, list := make1(), []int{2, 1, 0, 7}
	arcs, cycle := room[:4], list[:3]
	reach, found := Reach(3, arcs), Cycle(3, arcs)
	if !Is(3, arcs, cycle) || !slices.Equal(found, []int{0, 2, 1}) {
		t.Fatal("a ring", found)
	}
	order, _ := Order(3, arcs[1:2])
	if !slices.Equal(room, make1()) || !slices.Equal(list, []int{2, 1, 0, 7}) {
		t.Fatal("what was handed in is changed", room, list)
	}
	clear(reach[0][:cap(reach[0])])
	if !slices.Equal(reach[1], []bool{true, true, true}) {
		t.Error("two lists of an answer share memory", reach)
	}
	clear(found[:cap(found)])
	clear(order[:cap(order)])
	if !slices.Equal(room, make1()) || !slices.Equal(list, []int{2, 1, 0, 7}) {
		t.Error("an answer shares an argument's memory", room, list)
	}
	clear(room)
	if !slices.Equal(reach[2], []bool{true, true, true}) {
		t.Error("what was handed in is kept", reach)
	}
	if again := Cycle(3, make1()[:4]); !slices.Equal(again, []int{0, 2, 1}) {
		t.Error("an answer is kept", again)
	}
}
