package graph

import (
	"cmp"
	"slices"
)

// Reach is the nodes to which one edge or more lead from a, rising.
func (g *Graph[K]) Reach(a K) []K {
	var found []K
	seen := map[K]struct{}{}
	todo := []K{a}
	for len(todo) > 0 {
		last := todo[len(todo)-1]
		todo = todo[:len(todo)-1]
		for b := range g.out[last] {
			if _, ok := seen[b]; !ok {
				seen[b] = struct{}{}
				found = append(found, b)
				todo = append(todo, b)
			}
		}
	}
	slices.Sort(found)
	return found
}

// turned is, of each node, those from which an edge leads to it, in any order.
func (g *Graph[K]) turned() map[K][]K {
	in := map[K][]K{}
	for a, out := range g.out {
		for b := range out {
			in[b] = append(in[b], a)
		}
	}
	return in
}

// Topo is all nodes, the least one first that nothing holds back any more.
func (g *Graph[K]) Topo() ([]K, bool) {
	holds := map[K]int{}
	for _, out := range g.out {
		for b := range out {
			holds[b]++
		}
	}
	var free, order []K
	for _, k := range g.Nodes() {
		if holds[k] == 0 {
			free = append(free, k)
		}
	}
	for len(free) > 0 {
		least := free[0]
		free = free[1:]
		order = append(order, least)
		for b := range g.out[least] {
			holds[b]--
			if holds[b] == 0 {
				i, _ := slices.BinarySearch(free, b)
				free = slices.Insert(free, i, b)
			}
		}
	}
	if len(order) < len(g.out) {
		return nil, false
	}
	return order, true
}

// Cycle is the shortest and then least cycle that begins with the least node that is on one.
func (g *Graph[K]) Cycle() []K {
	start, ok := g.leastOnCycle()
	if !ok {
		return nil
	}
	away := g.away(start)
	cycle := []K{start}
	now, left := start, g.nearest(start, away)
	for ; left > 0; left-- {
		// Of the shortest ways back all go over nodes that are that far away.
		for _, b := range g.Out(now) {
			if far, ok := away[b]; ok && far == left {
				now = b
				break
			}
		}
		cycle = append(cycle, now)
	}
	return cycle
}

// leastOnCycle is the least node that reaches itself.
func (g *Graph[K]) leastOnCycle() (K, bool) {
	for _, part := range g.Parts() {
		if _, loop := g.out[part[0]][part[0]]; loop || len(part) > 1 {
			return part[0], true
		}
	}
	var none K
	return none, false
}

// away is, of each node that reaches the goal, over how many edges at least.
func (g *Graph[K]) away(goal K) map[K]int {
	in := g.turned()
	away := map[K]int{goal: 0}
	rim := []K{goal}
	for len(rim) > 0 {
		first := rim[0]
		rim = rim[1:]
		for _, a := range in[first] {
			if _, ok := away[a]; !ok {
				away[a] = away[first] + 1
				rim = append(rim, a)
			}
		}
	}
	return away
}

// nearest is how far away that one is to which an edge leads from a and which is the least away.
func (g *Graph[K]) nearest(a K, away map[K]int) int {
	least := len(g.out)
	for b := range g.out[a] {
		if far, ok := away[b]; ok {
			least = min(least, far)
		}
	}
	return least
}

// Parts is the nodes in groups, in each of which each reaches all others.
func (g *Graph[K]) Parts() [][]K {
	in := g.turned()
	seen := map[K]struct{}{}
	var parts [][]K
	// Who was left last reaches all that it is in a group with; what leads to it, and is in no
	// group yet, is reached by it, too.
	for _, k := range slices.Backward(g.left()) {
		if part := gather(k, in, seen); len(part) > 0 {
			slices.Sort(part)
			parts = append(parts, part)
		}
	}
	slices.SortFunc(parts, func(p, q []K) int { return cmp.Compare(p[0], q[0]) })
	return parts
}

// gather is k and all that are found from it on by next, but those that have been seen; now they have.
func gather[K cmp.Ordered](k K, next map[K][]K, seen map[K]struct{}) []K {
	var found []K
	todo := []K{k}
	for len(todo) > 0 {
		last := todo[len(todo)-1]
		todo = todo[:len(todo)-1]
		if _, ok := seen[last]; ok {
			continue
		}
		seen[last] = struct{}{}
		found = append(found, last)
		todo = append(todo, next[last]...)
	}
	return found
}

// A visit is a node that is gone through, and those behind it that are still to be looked at.
type visit[K cmp.Ordered] struct {
	node K
	todo []K
}

// left is all nodes in the order in which a walk in depth leaves them.
func (g *Graph[K]) left() []K {
	var order []K
	seen := map[K]struct{}{}
	for _, start := range g.Nodes() {
		stack := g.enter(nil, seen, start)
		for len(stack) > 0 {
			top := &stack[len(stack)-1]
			if len(top.todo) == 0 {
				order = append(order, top.node)
				stack = stack[:len(stack)-1]
				continue
			}
			next := top.todo[0]
			top.todo = top.todo[1:]
			stack = g.enter(stack, seen, next)
		}
	}
	return order
}

// enter is the stack with a visit of k on it, if it has not been seen.
func (g *Graph[K]) enter(stack []visit[K], seen map[K]struct{}, k K) []visit[K] {
	if _, ok := seen[k]; ok {
		return stack
	}
	seen[k] = struct{}{}
	return append(stack, visit[K]{node: k, todo: g.Out(k)})
}
