package flow_test

import (
	"runtime/debug"
	"slices"
	"testing"

	"vellum/api"
	"vellum/flow"
)

// sequence returns the numbers from a first one to a last one, up or down.
func sequence(first, last int) []int {
	var list []int
	for n := first; n < last; n++ {
		list = append(list, n)
	}
	for n := first; n > last; n-- {
		list = append(list, n)
	}
	return append(list, last)
}

// chain returns a graph in which each node but the last one leads to the one behind it.
func chain(nodes int) api.Graph {
	g := api.Graph{Succ: make([][]int, nodes)}
	for n := range nodes - 1 {
		g.Succ[n] = to(n + 1)
	}
	return g
}

func TestP1_DeepGraphsNeedNoDeepStack(t *testing.T) {
	// An overflow of the stack would end the tests.
	defer debug.SetMaxStack(debug.SetMaxStack(16 << 20))
	const nodes = 300000
	g := chain(nodes)
	check(t, "a deep graph", g, results{sequence(0, nodes-1), sequence(-1, nodes-2), nil, true})
	g.Succ[nodes-1] = to(0)
	want := results{sequence(0, nodes-1), sequence(-1, nodes-2), []api.Cycle{{Body: sequence(0, nodes-1)}}, true}
	check(t, "a long cycle", g, want)
	g.Succ[0] = to(1, nodes/2)
	want.dominators[nodes/2] = 0
	check(t, "a long cycle with a shortcut", g, want)
	g.Succ[nodes/2-1], g.Succ[nodes-1] = nil, to(1)
	want.order = append(append(to(0), sequence(nodes/2, nodes-1)...), sequence(1, nodes/2-1)...)
	want.dominators[1], want.loops = 0, nil
	check(t, "a deep graph in two parts", g, want)
}

func TestP6_2_DeepSearchesGoOn(t *testing.T) {
	// Every node of a chain has two further successors, of which one is searched before the rest of the chain and the other
	// one after it, and repeated ones.
	const length = 30001
	g := api.Graph{Succ: make([][]int, 3*length)}
	want := results{reducible: true, dominators: make([]int, 3*length)}
	for k := range length {
		n := 3 * k
		g.Succ[n] = to(n+1, n+1, n+2)
		if k < length-1 {
			g.Succ[n] = to(n+1, n+3, n+1, n+2, n+3)
		}
		want.order = append(want.order, n, n+2)
		want.dominators[n], want.dominators[n+1], want.dominators[n+2] = max(n-3, -1), n, n
	}
	for k := length - 1; k >= 0; k-- {
		want.order = append(want.order, 3*k+1)
	}
	check(t, "a chain with more nodes", g, want)
}

// orderWithoutCalls returns the order of a graph, by a search that keeps its own stack.
func orderWithoutCalls(g api.Graph) []int {
	var list []int
	searched := make([]bool, len(g.Succ))
	searched[0] = true
	positions := make([]int, len(g.Succ))
	for stack := to(0); len(stack) > 0; {
		n := stack[len(stack)-1]
		if positions[n] == len(g.Succ[n]) {
			list = append(list, n)
			stack = stack[:len(stack)-1]
			continue
		}
		s := g.Succ[n][positions[n]]
		positions[n]++
		if !searched[s] {
			searched[s] = true
			stack = append(stack, s)
		}
	}
	slices.Reverse(list)
	return list
}

// dominatorsByRepetition returns the dominators of a graph with an order, by the algorithm of Cooper, Harvey and
// Kennedy: those of the predecessors are joined until nothing changes.
func dominatorsByRepetition(g api.Graph, order []int) []int {
	positions := slices.Repeat(to(-1), len(g.Succ))
	for k, n := range order {
		positions[n] = k
	}
	dominators := slices.Repeat(to(-1), len(g.Succ))
	join := func(a, b int) int {
		for a != b {
			if positions[a] < positions[b] {
				a, b = b, a
			}
			a = dominators[a]
		}
		return a
	}
	for changed := true; changed; {
		changed = false
		for _, n := range order {
			for _, s := range g.Succ[n] {
				d := n
				if dominators[s] >= 0 {
					d = join(n, dominators[s])
				}
				if s != 0 && d != dominators[s] {
					dominators[s], changed = d, true
				}
			}
		}
	}
	return dominators
}

// deepGraph returns a graph of chains that begin at nodes of others, with some more edges.
func deepGraph(r *random, nodes, edges int) api.Graph {
	g := api.Graph{Succ: make([][]int, nodes)}
	end := 0
	for n := 1; n < nodes; n++ {
		if r.below(7000) == 0 {
			end = r.below(n)
		}
		g.Succ[end] = append(g.Succ[end], n)
		end = n
	}
	hub := r.below(min(nodes, 7000))
	for range nodes / 9000 {
		g.Succ[hub] = append(g.Succ[hub], r.below(nodes), r.below(nodes))
	}
	for range edges {
		n := r.below(nodes)
		g.Succ[n] = append(g.Succ[n], max(n-r.below(20), 0), r.below(nodes))
	}
	return r.shuffled(g)
}

func TestP6_2_3_LargeRandomGraphs(t *testing.T) {
	r := random(8)
	for n := range 60 {
		g := deepGraph(&r, 20000+r.below(60000), r.below(30))
		order := orderWithoutCalls(g)
		if len(order) < len(g.Succ) {
			t.Fatalf("graph %d: only %d nodes are reachable", n, len(order))
		}
		if !slices.Equal(flow.Order(g), order) {
			t.Errorf("graph %d: the order is wrong", n)
		}
		if !slices.Equal(flow.Dominators(g), dominatorsByRepetition(g, order)) {
			t.Errorf("graph %d: the dominators are wrong", n)
		}
	}
	for n := range 20 {
		g := r.graph(20000, 1+r.below(3), n%2 == 0)
		order := orderWithoutCalls(g)
		if !slices.Equal(flow.Order(g), order) || !slices.Equal(flow.Dominators(g), dominatorsByRepetition(g, order)) {
			t.Errorf("wild graph %d: the order or the dominators are wrong", n)
		}
	}
}

// star returns a graph whose entry, and the ends of whose first branches, have long branches.
func star(branches, length int) api.Graph {
	g := api.Graph{Succ: make([][]int, 1)}
	for k := range 2 * branches {
		root := 0
		if k >= branches {
			root = length
		}
		for range length {
			g.Succ[root] = append(g.Succ[root], len(g.Succ))
			root = len(g.Succ)
			g.Succ = append(g.Succ, nil)
		}
	}
	return g
}

func TestP6_2_LongBranches(t *testing.T) {
	r := random(9)
	for _, length := range to(1, 4998, 4999, 5000, 5001, 5002, 10001, 15003) {
		g := star(5, length)
		for range 3 {
			if !slices.Equal(flow.Order(g), orderWithoutCalls(g)) {
				t.Errorf("the order of branches of %d nodes is wrong", length)
			}
			g = r.shuffled(g)
		}
	}
}

func TestP6_3_LargeGraphsThatAreNotReducible(t *testing.T) {
	// A chain in both directions that is entered at both ends, and in the middle.
	const nodes = 200001
	g := api.Graph{Succ: make([][]int, nodes)}
	for n := 1; n < nodes; n++ {
		g.Succ[n] = to(max(n-1, 1), min(n+1, nodes-1))
	}
	want := results{order: sequence(0, nodes-1), dominators: slices.Repeat(to(0), nodes)}
	want.dominators[0] = -1
	// The ends are their own successors.
	want.loops = []api.Cycle{{Head: 1, Body: to(1)}, {Head: nodes - 1, Body: to(nodes - 1)}}
	g.Succ[0] = to(1, nodes-1)
	check(t, "entered at both ends", g, want)
	g.Succ[0] = to(1, nodes/2, nodes-1)
	check(t, "entered at the ends and in the middle", g, want)
	g.Succ[0] = to(1)
	// Its loops would have as many nodes as the square of those of the graph.
	if !slices.Equal(flow.Dominators(g), sequence(-1, nodes-2)) || !flow.Reducible(g) {
		t.Error("a chain in both directions that is entered at one end")
	}
}

func TestP6_4_ManyLoops(t *testing.T) {
	const nodes = 100000
	g := chain(nodes)
	var want []api.Cycle
	for n := range nodes {
		g.Succ[n] = append(g.Succ[n], n)
		want = append(want, api.Cycle{Head: n, Body: to(n)})
	}
	check(t, "each node is a loop", g, results{sequence(0, nodes-1), sequence(-1, nodes-2), want, true})
}

func TestP6_4_NestedLoops(t *testing.T) {
	const depth = 1000
	g := chain(2 * depth)
	var want []api.Cycle
	for n := range depth {
		last := 2*depth - 1 - n
		g.Succ[last] = append(g.Succ[last], n)
		want = append(want, api.Cycle{Head: n, Body: sequence(n, last)})
	}
	check(t, "loops in loops", g, results{sequence(0, 2*depth-1), sequence(-1, 2*depth-2), want, true})
	for n := range depth {
		g.Succ[2*depth-1-n] = slices.Insert(g.Succ[2*depth-1-n], 0, n/2, n)
		want[n/2].Body = sequence(n/2, 2*depth-1-n/2)
	}
	check(t, "loops in loops with more edges", g, results{sequence(0, 2*depth-1), sequence(-1, 2*depth-2), want, true})
}

func TestP6_5_OneEdgeDecides(t *testing.T) {
	const nodes = 50000
	g := chain(nodes)
	g.Succ[nodes-1] = to(1)
	if !flow.Reducible(g) {
		t.Error("a long loop is not reducible")
	}
	for _, n := range to(2, 3, nodes/2, nodes-2, nodes-1) {
		g.Succ[0] = to(1, n)
		if flow.Reducible(g) {
			t.Errorf("a long loop that is entered at %d, too, is reducible", n)
		}
		g.Succ[0] = to(n, 1)
		if flow.Reducible(g) {
			t.Errorf("a long loop that is entered at %d first is reducible", n)
		}
	}
	g.Succ[0] = to(1, 1)
	if !flow.Reducible(g) {
		t.Error("a long loop with a repeated edge is not reducible")
	}
}
