package graph_test

import (
	"cmp"
	"math"
	"slices"
	"strconv"
	"sync"
	"testing"

	"umpire/graph"
	"umpire/testkit"
)

// edges is the graph of these edges, all of kind 1.
func edges(pairs ...[2]int) *graph.Graph[int] {
	g := graph.New[int]()
	for _, p := range pairs {
		g.Edge(p[0], p[1], 1)
	}
	return g
}

// sample is the graph of the chapter's examples.
func sample() *graph.Graph[int] {
	g := edges([2]int{1, 2}, [2]int{2, 3}, [2]int{3, 2})
	g.Edge(3, 1, 2)
	g.Node(7)
	return g
}

func sameParts(a, b [][]int) bool { return slices.EqualFunc(a, b, slices.Equal[[]int]) }

// P10.1
func TestNodesAndEdges(t *testing.T) {
	g := graph.New[int]()
	if len(g.Nodes()) != 0 || len(g.Edges()) != 0 || g.Has(0, 0, 0) || len(g.Out(0)) != 0 || len(g.Kinds(0, 0)) != 0 {
		t.Error("a new one has something")
	}
	if !g.Node(5) || g.Node(5) || !g.Node(-5) || !slices.Equal(g.Nodes(), []int{-5, 5}) {
		t.Error("Node", g.Nodes())
	}
	for _, c := range []struct {
		a, b, kind int
		want       bool
	}{{5, 3, 1, true}, {5, 3, 1, false}, {3, 5, 1, true}, {5, 3, 0, true}, {5, 3, -9, true}, {5, 3, math.MaxInt, true}, {5, 3, math.MinInt, true}, {5, 3, -9, false}, {5, 5, 2, true}, {5, 5, 2, false}, {5, 9, 4, true}} {
		if got := g.Edge(c.a, c.b, c.kind); got != c.want || !g.Has(c.a, c.b, c.kind) {
			t.Errorf("Edge(%d, %d, %d) = %v", c.a, c.b, c.kind, got)
		}
	}
	if g.Node(3) || g.Node(9) || !slices.Equal(g.Nodes(), []int{-5, 3, 5, 9}) {
		t.Error("an edge's nodes are none", g.Nodes())
	}
	want := []graph.Edge[int]{{From: 3, To: 5, Kind: 1}, {From: 5, To: 3, Kind: math.MinInt}, {From: 5, To: 3, Kind: -9}, {From: 5, To: 3, Kind: 0}, {From: 5, To: 3, Kind: 1}, {From: 5, To: 3, Kind: math.MaxInt}, {From: 5, To: 5, Kind: 2}, {From: 5, To: 9, Kind: 4}}
	if got := g.Edges(); !slices.Equal(got, want) {
		t.Errorf("Edges = %v", got)
	}
	if got := g.Kinds(5, 3); !slices.Equal(got, []int{math.MinInt, -9, 0, 1, math.MaxInt}) {
		t.Errorf("Kinds = %v", got)
	}
	if got := g.Out(5); !slices.Equal(got, []int{3, 5, 9}) {
		t.Errorf("Out = %v", got)
	}
	if g.Has(9, 5, 4) || g.Has(5, 9, 5) || g.Has(77, 5, 1) || len(g.Kinds(9, 5)) != 0 || len(g.Kinds(77, 78)) != 0 || len(g.Out(77)) != 0 || len(g.Out(-5)) != 0 {
		t.Error("it has what it has not")
	}
	if !slices.Equal(g.Nodes(), []int{-5, 3, 5, 9}) {
		t.Error("asking made a node", g.Nodes())
	}
}

// P10.1, P10.2, P10.3, P10.4: the chapter's examples.
func TestExamples(t *testing.T) {
	g := sample()
	if !slices.Equal(g.Nodes(), []int{1, 2, 3, 7}) || !slices.Equal(g.Out(3), []int{1, 2}) || !slices.Equal(g.Kinds(3, 1), []int{2}) || !slices.Equal(g.Reach(2), []int{1, 2, 3}) || len(g.Reach(7)) != 0 {
		t.Error(g.Nodes(), g.Out(3), g.Kinds(3, 1), g.Reach(2), g.Reach(7))
	}
	if order, ok := g.Topo(); len(order) != 0 || ok {
		t.Error("Topo", order, ok)
	}
	if !slices.Equal(g.Cycle(), []int{1, 2, 3}) || !sameParts(g.Parts(), [][]int{{1, 2, 3}, {7}}) {
		t.Error(g.Cycle(), g.Parts())
	}
	h := edges([2]int{5, 4}, [2]int{6, 4})
	h.Node(1)
	if order, ok := h.Topo(); !slices.Equal(order, []int{1, 5, 6, 4}) || !ok || len(h.Cycle()) != 0 {
		t.Error(order, ok, h.Cycle())
	}
	loop := edges([2]int{8, 8})
	if order, ok := loop.Topo(); !slices.Equal(loop.Cycle(), []int{8}) || !sameParts(loop.Parts(), [][]int{{8}}) || ok || len(order) != 0 || !slices.Equal(loop.Reach(8), []int{8}) {
		t.Error(loop.Cycle(), loop.Parts(), order, ok)
	}
}

// P10.2, P10.3, P10.4
func TestOfNothing(t *testing.T) {
	g := graph.New[string]()
	if order, ok := g.Topo(); len(order) != 0 || !ok || len(g.Cycle()) != 0 || len(g.Parts()) != 0 || len(g.Reach("")) != 0 {
		t.Error("a graph without a node", order, ok)
	}
}

// P10.2
func TestCycle(t *testing.T) {
	for _, c := range []struct {
		pairs [][2]int
		want  []int
	}{
		{[][2]int{{1, 2}, {2, 3}, {3, 4}, {4, 1}, {3, 1}}, []int{1, 2, 3}},
		{[][2]int{{5, 6}, {6, 5}, {2, 3}, {3, 4}, {4, 2}}, []int{2, 3, 4}},
		{[][2]int{{1, 2}, {2, 3}, {3, 2}}, []int{2, 3}},
		{[][2]int{{1, 9}, {9, 1}, {1, 3}, {3, 1}}, []int{1, 3}},
		{[][2]int{{1, 4}, {4, 2}, {2, 1}, {1, 3}, {3, 9}, {9, 1}}, []int{1, 3, 9}},
		{[][2]int{{1, 3}, {3, 9}, {9, 1}, {3, 4}, {4, 1}, {1, 2}, {2, 8}, {8, 7}, {7, 1}}, []int{1, 3, 4}},
		{[][2]int{{1, 2}, {2, 1}, {1, 1}}, []int{1}},
		{[][2]int{{1, 2}, {2, 2}, {2, 1}}, []int{1, 2}},
		{[][2]int{{9, 9}, {1, 9}}, []int{9}},
		{[][2]int{{1, 2}, {1, 3}, {2, 3}}, nil},
		{[][2]int{{-3, -4}, {-4, -3}, {0, 1}, {1, 0}}, []int{-4, -3}},
	} {
		if got := edges(c.pairs...).Cycle(); !slices.Equal(got, c.want) {
			t.Errorf("Cycle of %v = %v, not %v", c.pairs, got, c.want)
		}
	}
}

// P10.3: again and again the least one that is free, not all that were free at once.
func TestTopo(t *testing.T) {
	for _, c := range []struct {
		pairs [][2]int
		want  []int
	}{
		{[][2]int{{5, 1}, {9, 2}}, []int{5, 1, 9, 2}}, {[][2]int{{1, 9}, {9, 2}, {3, 4}}, []int{1, 3, 4, 9, 2}}, {[][2]int{{3, 2}, {2, 1}}, []int{3, 2, 1}}, {[][2]int{{1, 2}, {1, 3}, {4, 3}, {2, 4}}, []int{1, 2, 4, 3}},
	} {
		if got, ok := edges(c.pairs...).Topo(); !slices.Equal(got, c.want) || !ok {
			t.Errorf("Topo of %v = %v, %v", c.pairs, got, ok)
		}
	}
	twice := edges([2]int{2, 1})
	twice.Edge(2, 1, 7)
	if got, ok := twice.Topo(); !slices.Equal(got, []int{2, 1}) || !ok {
		t.Errorf("Topo with edges of two kinds = %v, %v", got, ok)
	}
}

// P10.5
func TestMap(t *testing.T) {
	g := sample()
	var asked []int
	m := graph.Map(g, func(k int) string {
		asked = append(asked, k)
		return strconv.Itoa(k % 2)
	})
	want := []graph.Edge[string]{{From: "0", To: "1", Kind: 1}, {From: "1", To: "0", Kind: 1}, {From: "1", To: "1", Kind: 2}}
	if !slices.Equal(asked, []int{1, 2, 3, 7}) || !slices.Equal(m.Edges(), want) || !slices.Equal(m.Nodes(), []string{"0", "1"}) {
		t.Errorf("asked of %v; %v, %v", asked, m.Nodes(), m.Edges())
	}
	alone := graph.Map(g, func(k int) int { return -k })
	if !slices.Equal(alone.Nodes(), []int{-7, -3, -2, -1}) || !alone.Has(-3, -1, 2) || len(alone.Edges()) != 4 {
		t.Errorf("%v, %v", alone.Nodes(), alone.Edges())
	}
	if alone.Node(99); slices.Contains(g.Nodes(), 99) || len(graph.Map(graph.New[int](), strconv.Itoa).Nodes()) != 0 {
		t.Error("Map is no new graph")
	}
}

// P10.6
func TestNewMemory(t *testing.T) {
	g := sample()
	g.Edge(3, 1, 5)
	for name, call := range map[string]func() []int{"Nodes": g.Nodes, "Out": func() []int { return g.Out(3) }, "Kinds": func() []int { return g.Kinds(3, 1) }, "Reach": func() []int { return g.Reach(2) }, "Cycle": g.Cycle,
		"Topo": func() []int { o, _ := edges([2]int{1, 2}).Topo(); return o }, "Parts": func() []int { return g.Parts()[0] }} {
		one, two := call(), call()
		want := slices.Clone(two)
		_ = append(one, 55)
		for i := range one[:cap(one)] {
			one[:cap(one)][i] = 66
		}
		if !slices.Equal(two, want) || !slices.Equal(call(), want) {
			t.Errorf("%s shares memory", name)
		}
	}
	parts := g.Parts()
	for _, p := range parts {
		_ = append(p, 55)
	}
	one := g.Edges()
	clear(one[:cap(one)])
	if !sameParts(parts, g.Parts()) || len(g.Edges()) != 5 || g.Edges()[0] != (graph.Edge[int]{From: 1, To: 2, Kind: 1}) {
		t.Error("Parts or Edges share memory", parts, g.Edges())
	}
	if g.Has(3, 1, 66) {
		t.Error("a kind was written into the graph")
	}
}

// P10.6
func TestAskedBySeveral(t *testing.T) {
	g := sample()
	var group sync.WaitGroup
	for range 4 {
		group.Go(func() {
			for range 50 {
				_, ok := g.Topo()
				if ok || len(g.Cycle()) != 3 || len(g.Parts()) != 2 || len(g.Edges()) != 4 || len(g.Reach(1)) != 3 || !g.Has(3, 1, 2) || len(graph.Map(g, func(k int) int { return k }).Nodes()) != 4 {
					t.Error("asked by several, it answers otherwise")
				}
			}
		})
	}
	group.Wait()
}

// someGraph is a graph of the nodes 0 to 5 at most.
func someGraph(dice *testkit.Dice) *graph.Graph[int] {
	g := graph.New[int]()
	for range dice.Roll(4) {
		g.Node(dice.Roll(6))
	}
	for range dice.Roll(9) {
		g.Edge(dice.Roll(6), dice.Roll(6), dice.Roll(3))
	}
	return g
}

// leads tells whether edges lead from a to b, one or more, at most so many.
func leads(g *graph.Graph[int], a, b, most int) bool {
	return most > 0 && slices.ContainsFunc(g.Out(a), func(k int) bool { return k == b || leads(g, k, b, most-1) })
}

// least is the best of all lists of nodes, each once, that f takes: the least node by node, of those of that length.
func least(nodes []int, length int, f func(list []int) bool) []int {
	var best []int
	var grow func(list []int)
	grow = func(list []int) {
		if best != nil {
			return
		}
		if len(list) == length {
			if f(list) {
				best = slices.Clone(list)
			}
			return
		}
		for _, k := range nodes {
			if !slices.Contains(list, k) {
				grow(append(list[:len(list):len(list)], k))
			}
		}
	}
	grow(nil)
	return best
}

// isCycle tells whether an edge leads from each of the list to the next, and from the last to the first.
func isCycle(g *graph.Graph[int], list []int) bool {
	for i, k := range list {
		if !slices.Contains(g.Out(k), list[(i+1)%len(list)]) {
			return false
		}
	}
	return true
}

// rises tells whether each edge leads from a node ahead to one behind.
func rises(g *graph.Graph[int], list []int) bool {
	for _, e := range g.Edges() {
		if slices.Index(list, e.From) >= slices.Index(list, e.To) {
			return false
		}
	}
	return true
}

// plainCycle is Cycle, worked out by going through all lists of nodes.
func plainCycle(g *graph.Graph[int]) []int {
	for _, first := range g.Nodes() {
		for length := 1; length <= len(g.Nodes()); length++ {
			if list := least(g.Nodes(), length, func(list []int) bool { return list[0] == first && isCycle(g, list) }); list != nil {
				return list
			}
		}
	}
	return nil
}

// P10.2, P10.3, P10.4, P10.7, P10.8
func TestAgainstThePlainWay(t *testing.T) {
	dice := testkit.NewDice(1)
	cycles := 0
	for range 500 {
		g := someGraph(dice)
		nodes := g.Nodes()
		for a := range 7 {
			var want []int
			for _, b := range nodes {
				if leads(g, a, b, 6) {
					want = append(want, b)
				}
			}
			if got := g.Reach(a); !slices.Equal(got, want) {
				t.Fatalf("%v: Reach(%d) = %v, not %v", g.Edges(), a, got, want)
			}
		}
		cycle, want := g.Cycle(), plainCycle(g)
		if !slices.Equal(cycle, want) {
			t.Fatalf("%v: Cycle = %v, not %v", g.Edges(), cycle, want)
		}
		order, ok := g.Topo()
		if ok != (len(cycle) == 0) || !ok && len(order) > 0 {
			t.Fatalf("%v: Topo = %v, %v", g.Edges(), order, ok)
		}
		if ok && len(nodes) > 0 && !slices.Equal(order, least(nodes, len(nodes), func(list []int) bool { return rises(g, list) })) {
			t.Fatalf("%v: Topo = %v", g.Edges(), order)
		}
		if !ok {
			cycles++
		}
		judgeParts(t, g, cycle)
	}
	if cycles < 100 || cycles > 400 {
		t.Errorf("%d of 500 have a cycle", cycles)
	}
}

// judgeParts judges Parts by who reaches whom.
func judgeParts(t *testing.T, g *graph.Graph[int], cycle []int) {
	t.Helper()
	parts := g.Parts()
	where := map[int]int{}
	for i, p := range parts {
		for _, k := range p {
			where[k] = i
		}
		if !slices.IsSorted(p) || len(p) == 0 {
			t.Fatalf("%v: Parts = %v", g.Edges(), parts)
		}
	}
	if !slices.IsSortedFunc(parts, func(p, q []int) int { return cmp.Compare(p[0], q[0]) }) || len(slices.Concat(parts...)) != len(g.Nodes()) || len(where) != len(g.Nodes()) {
		t.Fatalf("%v: Parts = %v", g.Edges(), parts)
	}
	for _, a := range g.Nodes() {
		for _, b := range g.Nodes() {
			if (where[a] == where[b]) != (a == b || leads(g, a, b, 6) && leads(g, b, a, 6)) {
				t.Fatalf("%v: Parts = %v", g.Edges(), parts)
			}
		}
	}
	for _, k := range cycle {
		if where[k] != where[cycle[0]] {
			t.Fatalf("%v: the cycle %v is in no one of %v", g.Edges(), cycle, parts)
		}
	}
	alone := !slices.ContainsFunc(parts, func(p []int) bool { return len(p) > 1 || slices.Contains(g.Out(p[0]), p[0]) })
	if alone != (len(cycle) == 0) {
		t.Fatalf("%v: Parts = %v, Cycle %v", g.Edges(), parts, cycle)
	}
}

// P10.2, P10.3, P10.4: a long way, and a long cycle.
func TestLongWays(t *testing.T) {
	g := graph.New[int]()
	const n = 500
	for i := range n {
		g.Edge(i, i+1, 1)
	}
	if order, ok := g.Topo(); !ok || len(order) != n+1 || order[0] != 0 || order[n] != n {
		t.Error("Topo of a long way")
	}
	if len(g.Cycle()) != 0 || len(g.Parts()) != n+1 || len(g.Reach(0)) != n {
		t.Error("a cycle in a long way")
	}
	g.Edge(n, 0, 1)
	if c := g.Cycle(); len(c) != n+1 || c[1] != 1 || len(g.Parts()) != 1 || len(g.Reach(5)) != n+1 {
		t.Error("no cycle in a long one")
	}
}
