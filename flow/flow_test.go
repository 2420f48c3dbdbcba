package flow_test

import (
	"fmt"
	"math"
	"slices"
	"testing"

	"vellum/api"
	"vellum/flow"
)

func TestP6_1_ValidGraphs(t *testing.T) {
	for _, g := range []api.Graph{
		graph(nil),
		graph(to()),
		graph(to(0)),
		graph(to(1), to(0)),
		graph(to(2, 2, 0), nil, to(1)),
		graph(nil, nil, to(2, 1, 0)), // also nodes that are not reachable
	} {
		if !flow.Valid(g) {
			t.Errorf("%v is not valid", g.Succ)
		}
		checkLikeModel(t, "valid", g)
	}
}

func TestP6_1_OtherGraphs(t *testing.T) {
	graphs := []api.Graph{{}, {Succ: [][]int{}}}
	for _, n := range []int{-1, -2, 3, 4, 1 << 16, 1 << 32, 1<<32 + 1, -1 << 32, math.MinInt, math.MinInt32, math.MaxInt32, math.MaxInt} {
		graphs = append(graphs,
			graph(to(n), to(), to()),
			graph(to(1), to(2, n), to(0)),
			graph(to(1), to(2), to(n, 0)),
			graph(to(1), to(1), to(0, 1, n)), // node 2 is not reachable
			graph(to(n, n), to(n), to(n)),
		)
	}
	graphs = append(graphs, graph(to(1)), graph(to(-1)), graph(to(0), to(2)), graph(nil, to(0, 1, 2)))
	for _, g := range graphs {
		before := cloned(g)
		if flow.Valid(g) {
			t.Errorf("%v is valid", g.Succ)
		}
		if r := resultsOf(g); !r.isEmpty() {
			t.Errorf("%v: results %v", g.Succ, r)
		}
		if !sameGraph(g, before) {
			t.Errorf("%v was changed to %v", before.Succ, g.Succ)
		}
	}
}

func TestP6_1_EveryNumberOfNodes(t *testing.T) {
	for size := 1; size < 20; size++ {
		for n := range size {
			g := api.Graph{Succ: make([][]int, size)}
			for k, valid := range map[int]bool{-1: false, 0: true, size - 1: true, size: false} {
				g.Succ[n] = to(0, k)
				if flow.Valid(g) != valid || resultsOf(g).isEmpty() == valid {
					t.Errorf("%d nodes, of which %d has the successor %d: Valid: %v, results %v", size, n, k, flow.Valid(g), resultsOf(g))
				}
			}
		}
	}
}

// examples are graphs with their results.
var examples = []struct {
	what string
	g    api.Graph
	want results
}{
	{"one node", graph(nil), results{to(0), to(-1), nil, true}},
	{"its own successor", graph(to(0)), results{to(0), to(-1), []api.Cycle{{Head: 0, Body: to(0)}}, true}},
	{"a diamond", graph(to(1, 2), to(3), to(3), nil), results{to(0, 2, 1, 3), to(-1, 0, 0, 0), nil, true}},
	{"a diamond the other way", graph(to(2, 1), to(3), to(3), nil), results{to(0, 1, 2, 3), to(-1, 0, 0, 0), nil, true}},
	{"a loop", graph(to(1), to(2, 3), to(1), nil), results{to(0, 1, 3, 2), to(-1, 0, 1, 1), []api.Cycle{{Head: 1, Body: to(1, 2)}}, true}},
	{"two entries of a cycle", graph(to(1, 2), to(2), to(1)), results{to(0, 1, 2), to(-1, 0, 0), nil, false}},
	{"a node that is not reachable", graph(to(0), to(0)), results{to(0), to(-1, -1), []api.Cycle{{Head: 0, Body: to(0)}}, true}},
	{"a cycle that is not reachable", graph(to(3), to(2, 3), to(1, 3), nil), results{to(0, 3), to(-1, -1, -1, 0), nil, true}},
	{"two entries of a cycle that is not reachable", graph(nil, to(2), to(3), to(2), to(1, 3)), results{to(0), to(-1, -1, -1, -1, -1), nil, true}},
	{"a skipped diamond", graph(to(3, 1), to(2), to(3), nil), results{to(0, 1, 2, 3), to(-1, 0, 1, 0), nil, true}},
	{
		"a loop in a loop", graph(to(1), to(2), to(3), to(2, 4), to(1, 5), nil),
		results{to(0, 1, 2, 3, 4, 5), to(-1, 0, 1, 2, 3, 4), []api.Cycle{{Head: 1, Body: to(1, 2, 3, 4)}, {Head: 2, Body: to(2, 3)}}, true},
	},
	{
		"two back edges to one head", graph(to(1), to(2, 3), to(1), to(1, 4), nil),
		results{to(0, 1, 3, 4, 2), to(-1, 0, 1, 1, 3), []api.Cycle{{Head: 1, Body: to(1, 2, 3)}}, true},
	},
	{
		"heads that are found in decreasing order", graph(to(3), nil, to(2, 1), to(2, 3)),
		results{to(0, 3, 2, 1), to(-1, 2, 3, 0), []api.Cycle{{Head: 2, Body: to(2)}, {Head: 3, Body: to(3)}}, true},
	},
	{
		"a loop through the entry", graph(to(2), to(0), to(1)),
		results{to(0, 2, 1), to(-1, 2, 0), []api.Cycle{{Head: 0, Body: to(0, 1, 2)}}, true},
	},
	{
		"a back edge from the head and from elsewhere", graph(to(1), to(1, 2, 1), to(1, 3), nil),
		results{to(0, 1, 2, 3), to(-1, 0, 1, 2), []api.Cycle{{Head: 1, Body: to(1, 2)}}, true},
	},
	{
		"two entries of a cycle in a loop", graph(to(1, 2), to(2, 0), to(1)),
		results{to(0, 1, 2), to(-1, 0, 0), []api.Cycle{{Head: 0, Body: to(0, 1, 2)}}, false},
	},
	{
		"a loop within a cycle with two entries", graph(to(1, 2), to(2, 3), to(1), to(3, 1)),
		results{to(0, 1, 3, 2), to(-1, 0, 0, 1), []api.Cycle{{Head: 1, Body: to(1, 3)}, {Head: 3, Body: to(3)}}, false},
	},
	{
		// The nodes are R and A to L.
		"the example of Lengauer and Tarjan",
		graph(to(1, 2, 3), to(4), to(1, 4, 5), to(6, 7), to(12), to(8), to(9), to(9, 10), to(5, 11), to(11), to(9), to(9, 0), to(8)),
		results{
			to(0, 3, 7, 10, 6, 2, 1, 4, 12, 8, 11, 9, 5), to(-1, 0, 0, 0, 0, 0, 3, 3, 0, 0, 7, 0, 4),
			[]api.Cycle{{Head: 0, Body: to(0, 1, 2, 3, 4, 5, 6, 7, 8, 9, 10, 11, 12)}}, false,
		},
	},
}

func TestP6_2_3_4_5_Examples(t *testing.T) {
	for _, e := range examples {
		checkLikeModel(t, e.what, e.g)
		check(t, e.what, e.g, e.want)
	}
}

func TestP6_2_OrderFollowsTheSuccessors(t *testing.T) {
	for _, c := range []struct {
		g    api.Graph
		want []int
	}{
		{graph(to(1, 2, 3), nil, nil, nil), to(0, 3, 2, 1)},
		{graph(to(3, 1, 2), nil, nil, nil), to(0, 2, 1, 3)},
		{graph(to(3, 1, 3, 2, 1), nil, nil, nil), to(0, 2, 1, 3)},
		{graph(to(1, 2), to(2), nil), to(0, 1, 2)},
		{graph(to(2, 1), to(2), nil), to(0, 1, 2)},
		{graph(to(1, 2), nil, to(1)), to(0, 2, 1)},
		{graph(to(0, 1), to(0, 2), to(0, 0)), to(0, 1, 2)},
		{graph(to(1, 3), to(2), to(1, 3), to(4), to(2)), to(0, 1, 2, 3, 4)},
		{graph(to(4, 1), nil, to(1), nil, to(2)), to(0, 4, 2, 1)},
	} {
		if got := flow.Order(c.g); !slices.Equal(got, c.want) {
			t.Errorf("%v: order %v, want %v", c.g.Succ, got, c.want)
		}
	}
}

// lists returns all lists of at most two of n nodes, also of one twice.
func lists(n int) [][]int {
	all := [][]int{nil}
	for a := range n {
		all = append(all, to(a))
		for b := range n {
			all = append(all, to(a, b))
		}
	}
	return all
}

func TestP6_2_3_4_5_AllSmallGraphs(t *testing.T) {
	for _, nodes := range []int{1, 2, 3} {
		choices := lists(nodes)
		g := api.Graph{Succ: make([][]int, nodes)}
		var choose func(n int)
		choose = func(n int) {
			if n == nodes {
				checkLikeModel(t, fmt.Sprintf("%d nodes", nodes), g)
				return
			}
			for _, list := range choices {
				g.Succ[n] = list
				choose(n + 1)
			}
		}
		choose(0)
	}
}

func TestP6_2_3_4_5_AllSetsOfEdgesOfFourNodes(t *testing.T) {
	counts := map[bool]int{}
	for edges := range 1 << 16 {
		g := api.Graph{Succ: make([][]int, 4)}
		for k := range 16 {
			if edges>>k&1 != 0 {
				g.Succ[k/4] = append(g.Succ[k/4], k%4)
			}
		}
		counts[checkLikeModel(t, "4 nodes", g).reducible]++
	}
	if min(counts[true], counts[false]) < 1000 {
		t.Errorf("reducible: %v", counts)
	}
}

func TestP6_2_3_4_5_RandomGraphs(t *testing.T) {
	r := random(6)
	counts := map[bool]int{}
	loops, deep := 0, 0
	for n := range 12000 {
		g := r.graph(5+r.below(6), 1+r.below(2), r.below(2) == 0)
		want := checkLikeModel(t, fmt.Sprintf("graph %d", n), g)
		counts[want.reducible]++
		loops += len(want.loops)
		if slices.Max(want.dominators) > 5 {
			deep++
		}
	}
	if min(counts[true], counts[false], loops, deep) < 1000 {
		t.Errorf("reducible: %v, %d loops, %d deep", counts, loops, deep)
	}
}

func TestP6_2_3_4_5_RandomGraphsWithManyNodes(t *testing.T) {
	r := random(7)
	counts := map[bool]int{}
	for n := range 300 {
		g := r.graph(20+r.below(60), 1, n%3 == 0)
		if n%2 == 0 { // mostly a chain, so that most nodes are reachable
			for k := range len(g.Succ) - 1 {
				g.Succ[k] = append(g.Succ[k], k+1)
			}
		}
		counts[checkLikeModel(t, fmt.Sprintf("graph %d", n), g).reducible]++
	}
	if min(counts[true], counts[false]) < 50 {
		t.Errorf("reducible: %v", counts)
	}
}

func TestP6_2_3_4_ResultsShareNoMemory(t *testing.T) {
	g := graph(to(1), to(2, 1), to(3, 2), to(1, 0))
	first := resultsOf(g)
	second := resultsOf(g)
	for _, list := range [][]int{first.order, first.dominators, first.loops[0].Body, first.loops[1].Body, first.loops[2].Body} {
		before := second
		for k := range list {
			list[k] = 99
		}
		_ = append(list, 99, 99, 99, 99)
		check(t, "after a change of a result", g, before)
	}
	for _, c := range flow.Loops(g) {
		_ = append(c.Body, 77, 77, 77, 77)
	}
	check(t, "after changes of results", g, second)
	list := flow.Loops(g)
	_ = append(list[0].Body, 55, 55, 55, 55)
	if !sameLoops(list, second.loops) {
		t.Errorf("loops %v, want %v", list, second.loops)
	}
}
