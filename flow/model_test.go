package flow_test

import (
	"testing"

	"vellum/api"
)

// model follows the sentences of the chapter one by one: it looks for paths, and for nothing else.
type model struct {
	g         api.Graph
	reachable []bool
	// without tells for each node which nodes the entry has paths to that do not contain this node.
	without [][]bool
}

func modelOf(g api.Graph) model {
	m := model{g: g, reachable: reached(g, 0, -1)}
	for n := range g.Succ {
		m.without = append(m.without, reached(g, 0, n))
	}
	return m
}

// reached tells to which nodes there is a path from a node that does not contain another node (or -1).
func reached(g api.Graph, from, without int) []bool {
	ends := make([]bool, len(g.Succ))
	if from == without {
		return ends
	}
	ends[from] = true
	for todo := []int{from}; len(todo) > 0; {
		n := todo[0]
		todo = todo[1:]
		for _, s := range g.Succ[n] {
			if !ends[s] && s != without {
				ends[s] = true
				todo = append(todo, s)
			}
		}
	}
	return ends
}

func (m model) hasEdge(from, to int) bool {
	for _, s := range m.g.Succ[from] {
		if s == to {
			return true
		}
	}
	return false
}

func (m model) dominates(d, n int) bool {
	return m.reachable[d] && m.reachable[n] && !m.without[d][n]
}

func (m model) order() []int {
	var list []int
	searched := map[int]bool{}
	var search func(n int)
	search = func(n int) {
		searched[n] = true
		for _, s := range m.g.Succ[n] {
			if !searched[s] {
				search(s)
			}
		}
		list = append([]int{n}, list...)
	}
	search(0)
	return list
}

// isImmediate reports whether a node is the immediate dominator of another one.
func (m model) isImmediate(d, n int) bool {
	if d == n || !m.dominates(d, n) {
		return false
	}
	for e := range m.g.Succ {
		if e != n && m.dominates(e, n) && !m.dominates(e, d) {
			return false
		}
	}
	return true
}

func (m model) dominators() []int {
	var list []int
	for n := range m.g.Succ {
		list = append(list, -1)
		for d := range m.g.Succ {
			if n > 0 && m.isImmediate(d, n) {
				list[n] = d
			}
		}
	}
	return list
}

// loop returns the natural loop of a node, and whether there is a back edge to it.
func (m model) loop(head int) (api.Cycle, bool) {
	loop, isHead := api.Cycle{Head: head}, false
	isTail := make([]bool, len(m.g.Succ))
	for u := range m.g.Succ {
		isTail[u] = m.hasEdge(u, head) && m.dominates(head, u)
		isHead = isHead || isTail[u]
	}
	for n := range m.g.Succ {
		isNode := n == head
		if m.reachable[n] {
			for u, ok := range reached(m.g, n, head) {
				isNode = isNode || ok && isTail[u]
			}
		}
		if isNode {
			loop.Body = append(loop.Body, n)
		}
	}
	return loop, isHead
}

func (m model) loops() []api.Cycle {
	var list []api.Cycle
	for n := range m.g.Succ {
		if loop, isHead := m.loop(n); isHead {
			list = append(list, loop)
		}
	}
	return list
}

// reducible looks at all sets of nodes that are the nodes of a cycle.
func (m model) reducible() bool {
	next := make([]uint, len(m.g.Succ))
	dominated := make([]uint, len(m.g.Succ))
	var reachable uint
	for n := range m.g.Succ {
		for k := range m.g.Succ {
			if m.hasEdge(n, k) {
				next[n] |= 1 << k
			}
			if m.dominates(n, k) {
				dominated[n] |= 1 << k
			}
		}
		if m.reachable[n] {
			reachable |= 1 << n
		}
	}
	for set := uint(1); set < 1<<len(m.g.Succ); set++ {
		if set&^reachable == 0 && isCycle(next, set) && !someContains(dominated, set) {
			return false
		}
	}
	return true
}

// isCycle reports whether there is a cycle with just these nodes: each can be reached from each of them, over them, by
// at least one edge.
func isCycle(next []uint, set uint) bool {
	for n := range next {
		if set>>n&1 == 0 {
			continue
		}
		ends := next[n] & set
		for before := uint(0); before != ends; {
			before = ends
			for k := range next {
				if before>>k&1 != 0 {
					ends |= next[k] & set
				}
			}
		}
		if ends != set {
			return false
		}
	}
	return true
}

// someContains reports whether one of the sets of the nodes of a set contains all of them.
func someContains(sets []uint, set uint) bool {
	for n, s := range sets {
		if set>>n&1 != 0 && set&^s == 0 {
			return true
		}
	}
	return false
}

// collapses reports whether only one node is left if edges from a node to itself are removed, and nodes with one
// predecessor are joined with it, again and again: another way to tell whether a graph is reducible, also for many nodes.
func (m model) collapses() bool {
	next := map[int]map[int]bool{}
	for n, successors := range m.g.Succ {
		if m.reachable[n] {
			next[n] = map[int]bool{}
			for _, s := range successors {
				next[n][s] = true
			}
		}
	}
	for joined := true; joined; {
		joined = false
		for n := range m.g.Succ {
			if before := predecessorsIn(next, n); next[n] != nil && n != 0 && len(before) == 1 {
				joined = true
				delete(next[before[0]], n)
				for s := range next[n] {
					next[before[0]][s] = true
				}
				delete(next, n)
			}
		}
	}
	return len(next) == 1
}

// predecessorsIn returns the predecessors of a node, but for itself.
func predecessorsIn(next map[int]map[int]bool, n int) []int {
	var list []int
	for p, successors := range next {
		if p != n && successors[n] {
			list = append(list, p)
		}
	}
	return list
}

// checkLikeModel compares all functions with the model.
func checkLikeModel(t *testing.T, what string, g api.Graph) results {
	t.Helper()
	m := modelOf(g)
	want := results{m.order(), m.dominators(), m.loops(), m.collapses()}
	if len(g.Succ) <= 10 {
		want.reducible = m.reducible()
		if m.collapses() != want.reducible {
			t.Fatalf("%s: %v: the models contradict each other", what, g.Succ)
		}
	}
	check(t, what, g, want)
	return want
}
