package flow_test

import (
	"slices"
	"testing"

	"vellum/api"
	"vellum/flow"
)

// graph returns a graph with the successors of its nodes.
func graph(successors ...[]int) api.Graph {
	return api.Graph{Succ: successors}
}

// to is a list of successors.
func to(nodes ...int) []int { return nodes }

// cloned returns a graph that shares no memory with another one.
func cloned(g api.Graph) api.Graph {
	var c api.Graph
	for _, successors := range g.Succ {
		c.Succ = append(c.Succ, slices.Clone(successors))
	}
	return c
}

func sameGraph(a, b api.Graph) bool {
	return slices.EqualFunc(a.Succ, b.Succ, slices.Equal[[]int])
}

func sameLoops(a, b []api.Cycle) bool {
	return slices.EqualFunc(a, b, func(x, y api.Cycle) bool { return x.Head == y.Head && slices.Equal(x.Body, y.Body) })
}

// results are what all functions but Valid return for a graph.
type results struct {
	order, dominators []int
	loops             []api.Cycle
	reducible         bool
}

func resultsOf(g api.Graph) results {
	return results{flow.Order(g), flow.Dominators(g), flow.Loops(g), flow.Reducible(g)}
}

func (r results) isEmpty() bool {
	return len(r.order) == 0 && len(r.dominators) == 0 && len(r.loops) == 0 && !r.reducible
}

// check compares the results for a valid graph.
func check(t *testing.T, what string, g api.Graph, want results) {
	t.Helper()
	before := cloned(g)
	if !flow.Valid(g) {
		t.Fatalf("%s: %v is not valid", what, g.Succ)
	}
	got := resultsOf(g)
	if !slices.Equal(got.order, want.order) {
		t.Fatalf("%s: %v: order %v, want %v", what, g.Succ, got.order, want.order)
	}
	if !slices.Equal(got.dominators, want.dominators) {
		t.Fatalf("%s: %v: dominators %v, want %v", what, g.Succ, got.dominators, want.dominators)
	}
	if !sameLoops(got.loops, want.loops) {
		t.Fatalf("%s: %v: loops %v, want %v", what, g.Succ, got.loops, want.loops)
	}
	if got.reducible != want.reducible {
		t.Fatalf("%s: %v: reducible: %v", what, g.Succ, got.reducible)
	}
	if !sameGraph(g, before) {
		t.Fatalf("%s: %v was changed to %v", what, before.Succ, g.Succ)
	}
}

// random is a sequence of numbers that is the same in each run.
type random uint64

func (r *random) next() uint64 {
	*r += 0x9e3779b97f4a7c15
	x := uint64(*r)
	x = (x ^ x>>30) * 0xbf58476d1ce4e5b9
	x = (x ^ x>>27) * 0x94d049bb133111eb
	return x ^ x>>31
}

func (r *random) below(n int) int { return int(r.next() % uint64(n)) }

// graph returns a graph with some nodes, and about so many successors of each; most of them are near the node, so that
// the graph is deep, if it is not wild.
func (r *random) graph(nodes, successors int, wild bool) api.Graph {
	g := api.Graph{Succ: make([][]int, nodes)}
	for n := range nodes {
		for range r.below(2*successors + 1) {
			k := r.below(nodes)
			if !wild && r.below(8) > 0 {
				k = min(max(n+r.below(7)-2, 0), nodes-1)
			}
			g.Succ[n] = append(g.Succ[n], k)
		}
	}
	return g
}

// permutation returns the numbers below n in some order.
func (r *random) permutation(n int) []int {
	var list []int
	for k := range n {
		list = slices.Insert(list, r.below(k+1), k)
	}
	return list
}

// shuffled returns a graph with the successors in another order.
func (r *random) shuffled(g api.Graph) api.Graph {
	var s api.Graph
	for _, successors := range g.Succ {
		var list []int
		for _, k := range r.permutation(len(successors)) {
			list = append(list, successors[k])
		}
		s.Succ = append(s.Succ, list)
	}
	return s
}
