package graph

import (
	"math/rand"
	"slices"
	"testing"
)

// modelReach asks, for each two, whether a path of unlike steps does it: n arcs at most.
func modelReach(n int, arcs []Arc) [][]bool {
	reach := make([][]bool, n)
	for i := range reach {
		reach[i] = make([]bool, n)
		ends := map[int]int{i: 0}
		for range n {
			next := map[int]int{}
			for _, a := range arcs {
				if _, here := ends[a.From]; here && a.To >= 0 && a.To < n && a.From >= 0 && a.From < n {
					next[a.To] = 0
					reach[i][a.To] = true
				}
			}
			ends = next
		}
	}
	return reach
}

// modelIs is the chapter's words of what a cycle is.
func modelIs(n int, arcs []Arc, list []int) bool {
	for i, node := range list {
		if node < 0 || node >= n || slices.Contains(list[:i], node) || !slices.Contains(arcs, Arc{From: node, To: list[(i+1)%len(list)]}) {
			return false
		}
	}
	return len(list) > 0
}

// lists is all lists of unlike nodes, k of them, in order.
func lists(n, k int) [][]int {
	if k == 0 {
		return [][]int{{}}
	}
	var all [][]int
	for _, head := range lists(n, k-1) {
		for node := range n {
			if !slices.Contains(head, node) {
				all = append(all, append(slices.Clone(head), node))
			}
		}
	}
	return all
}

// modelOrder takes the least one left to which no arc goes from one left, arc by arc.
func modelOrder(n int, arcs []Arc) ([]int, bool) {
	var order []int
	left := upTo(n)
	for len(left) > 0 {
		at := slices.IndexFunc(left, func(node int) bool {
			return !slices.ContainsFunc(arcs, func(a Arc) bool { return a.To == node && slices.Contains(left, a.From) })
		})
		if at < 0 {
			return nil, false
		}
		order = append(order, left[at])
		left = slices.Delete(left, at, at+1)
	}
	return order, true
}

// allLists is, by n, all lists of unlike nodes, the shorter ones first, those as long in order.
func allLists(most int) [][][]int {
	all := make([][][]int, most+1)
	for n := range all {
		for k := range n {
			all[n] = append(all[n], lists(n, k+1)...)
		}
	}
	return all
}

// holdModel holds all calls against the chapter's words; it tells whether there is a cycle.
func holdModel(t *testing.T, n int, arcs []Arc, all [][]int) bool {
	t.Helper()
	var want []int
	if at := slices.IndexFunc(all, func(list []int) bool { return modelIs(n, arcs, list) }); at >= 0 {
		want = all[at]
	}
	if got := Cycle(n, arcs); !slices.Equal(got, want) {
		t.Fatalf("Cycle(%d, %v): %v, want %v", n, arcs, got, want)
	}
	order, ok := modelOrder(n, arcs)
	if got, is := Order(n, arcs); is != ok || !slices.Equal(got, order) {
		t.Fatalf("Order(%d, %v): %v, %v, want %v, %v", n, arcs, got, is, order, ok)
	}
	if ok != (want == nil) {
		t.Fatalf("%d, %v: the order %v and the cycle %v", n, arcs, order, want)
	}
	reach := modelReach(n, arcs)
	if got := Reach(n, arcs); !slices.EqualFunc(got, reach, slices.Equal[[]bool]) {
		t.Fatalf("Reach(%d, %v): %v, want %v", n, arcs, got, reach)
	}
	return want != nil
}

// TestAllSmallGraphs are all graphs of up to 3 nodes, and those of 4 without arcs from a node to itself.
func TestAllSmallGraphs(t *testing.T) {
	all := allLists(4)
	for n := range 5 {
		var arcs []Arc
		for i := range n * n {
			if n < 4 || i/n != i%n {
				arcs = append(arcs, Arc{From: i / n, To: i % n})
			}
		}
		for mask := range 1 << len(arcs) {
			var some []Arc
			for i, a := range arcs {
				if mask>>i&1 == 1 {
					some = append(some, a)
				}
			}
			holdModel(t, n, some, all[n])
			if n > 3 {
				continue
			}
			for _, list := range all[n] {
				if Is(n, some, list) != modelIs(n, some, list) {
					t.Fatalf("Is(%d, %v, %v)", n, some, list)
				}
			}
		}
	}
}

// TestDrawnGraphs have arcs twice, and some of other nodes.
func TestDrawnGraphs(t *testing.T) {
	source := rand.New(rand.NewSource(7))
	all := allLists(6)
	cycles := 0
	for range 4000 {
		n := source.Intn(7)
		arcs := make([]Arc, source.Intn(2*n+2))
		for i := range arcs {
			arcs[i] = Arc{From: source.Intn(n+2) - 1, To: source.Intn(n+2) - 1}
			if i > 0 && source.Intn(5) == 0 {
				arcs[i] = arcs[source.Intn(i)]
			}
			if arcs[i].From == arcs[i].To && source.Intn(4) > 0 {
				arcs[i].To++
			}
		}
		if holdModel(t, n, arcs, all[n]) {
			cycles++
		}
		for range 10 {
			list := make([]int, source.Intn(4))
			for i := range list {
				list[i] = source.Intn(n+2) - 1
			}
			if Is(n, arcs, list) != modelIs(n, arcs, list) {
				t.Fatalf("Is(%d, %v, %v)", n, arcs, list)
			}
		}
	}
	if cycles < 500 || cycles > 3500 {
		t.Error("too few graphs of a kind:", cycles, "have a cycle")
	}
}
