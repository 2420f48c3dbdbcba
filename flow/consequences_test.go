package flow_test

import (
	"fmt"
	"slices"
	"testing"

	"vellum/api"
	"vellum/flow"
)

// randomGraphs calls a function for graphs of several sizes and kinds.
func randomGraphs(seed random, count int, each func(what string, r *random, g api.Graph)) {
	r := seed
	for n := range count {
		g := r.graph(1+r.below(40), 1+r.below(2), r.below(3) == 0)
		each(fmt.Sprintf("graph %d: %v", n, g.Succ), &r, g)
	}
}

func TestP6_6_OrderAndDominators(t *testing.T) {
	randomGraphs(11, 2000, func(what string, r *random, g api.Graph) {
		order, dominators := flow.Order(g), flow.Dominators(g)
		if order[0] != 0 {
			t.Errorf("%s: the first node is %d", what, order[0])
		}
		if len(dominators) != len(g.Succ) {
			t.Errorf("%s: %d dominators", what, len(dominators))
		}
		for n, d := range dominators {
			k := slices.Index(order, n)
			if (d < 0) != (n == 0 || k < 0) || d < -1 {
				t.Errorf("%s: the dominator of %d is %d", what, n, d)
			}
			if d >= 0 && (slices.Index(order, d) < 0 || slices.Index(order, d) >= k) {
				t.Errorf("%s: %d does not come after %d in %v", what, n, d, order)
			}
		}
	})
}

func TestP6_6_GraphsWithoutCycles(t *testing.T) {
	randomGraphs(12, 2000, func(what string, r *random, g api.Graph) {
		// Every edge leads forward in a list of the nodes; backwards only from nodes that are not reachable.
		list := append(to(0), slices.DeleteFunc(r.permutation(len(g.Succ)), func(n int) bool { return n == 0 })...)
		isReachable := func(n int) bool { return slices.Contains(flow.Order(g), n) }
		for n := range g.Succ {
			g.Succ[n] = slices.DeleteFunc(g.Succ[n], func(s int) bool { return slices.Index(list, s) <= slices.Index(list, n) })
		}
		for n := range g.Succ {
			if !isReachable(n) {
				g.Succ[n] = append(g.Succ[n], n, r.below(len(g.Succ)))
			}
		}
		if !flow.Reducible(g) || len(flow.Loops(g)) != 0 {
			t.Errorf("%s: without cycles: %v: %v", what, g.Succ, resultsOf(g))
		}
		order := flow.Order(g)
		for k, n := range order {
			for _, s := range g.Succ[n] {
				if slices.Index(order, s) <= k {
					t.Errorf("%s: without cycles: %v: order %v", what, g.Succ, order)
				}
			}
		}
	})
}

func TestP6_6_OrderOfSuccessors(t *testing.T) {
	differs := 0
	randomGraphs(13, 2000, func(what string, r *random, g api.Graph) {
		other := r.shuffled(g)
		a, b := resultsOf(g), resultsOf(other)
		if !slices.Equal(a.order, b.order) {
			differs++
		}
		a.order = b.order
		check(t, what+", shuffled", other, a)
	})
	if differs < 500 {
		t.Errorf("only %d orders differ", differs)
	}
}

func TestP6_6_RepeatedSuccessors(t *testing.T) {
	randomGraphs(14, 1000, func(what string, r *random, g api.Graph) {
		want := resultsOf(g)
		for n, successors := range g.Succ {
			for range r.below(4) * min(len(successors), 1) {
				k := r.below(len(g.Succ[n]))
				at := k + 1 + r.below(len(g.Succ[n])-k)
				g.Succ[n] = slices.Insert(g.Succ[n], at, g.Succ[n][k])
			}
		}
		check(t, what+", repeated", g, want)
	})
}

func TestP6_6_NodesThatAreNotReachable(t *testing.T) {
	randomGraphs(15, 2000, func(what string, r *random, g api.Graph) {
		want := resultsOf(g)
		more := r.below(8)
		size := len(g.Succ) + more
		for range more {
			g.Succ = append(g.Succ, to(r.below(size), r.below(size), r.below(size)))
			want.dominators = append(want.dominators, -1)
		}
		check(t, what+", with more", g, want)
		for n := range g.Succ {
			if !slices.Contains(want.order, n) {
				g.Succ[n] = to(r.below(size), r.below(size))
			}
		}
		check(t, what+", with others", g, want)
	})
}

// contains reports whether a loop contains all nodes of another one.
func contains(a, b api.Cycle) bool {
	return !slices.ContainsFunc(b.Body, func(n int) bool { return !slices.Contains(a.Body, n) })
}

func areDisjoint(a, b api.Cycle) bool {
	return !slices.ContainsFunc(a.Body, func(n int) bool { return slices.Contains(b.Body, n) })
}

func TestP6_6_Loops(t *testing.T) {
	nested, disjoint := 0, 0
	randomGraphs(16, 4000, func(what string, r *random, g api.Graph) {
		dominators, loops := flow.Dominators(g), flow.Loops(g)
		for k, loop := range loops {
			if k > 0 && loops[k-1].Head >= loop.Head || !slices.IsSorted(loop.Body) || len(slices.Compact(slices.Clone(loop.Body))) != len(loop.Body) {
				t.Errorf("%s: not in order: %v", what, loops)
			}
			for _, n := range loop.Body {
				for n != loop.Head && n >= 0 {
					n = dominators[n]
				}
				if n < 0 {
					t.Errorf("%s: the head does not dominate %v", what, loop)
				}
			}
		}
		if !flow.Reducible(g) {
			return
		}
		for k, a := range loops {
			for _, b := range loops[:k] {
				switch {
				case areDisjoint(a, b):
					disjoint++
				case contains(a, b) || contains(b, a):
					nested++
				default:
					t.Errorf("%s: the loops %v and %v overlap", what, a, b)
				}
			}
		}
	})
	if min(nested, disjoint) < 300 {
		t.Errorf("%d loops are nested, %d are disjoint", nested, disjoint)
	}
}

func TestP6_6_RenumberedNodes(t *testing.T) {
	randomGraphs(17, 1000, func(what string, r *random, g api.Graph) {
		// Only the entry keeps its number; all results follow the numbers.
		names := append(to(0), r.permutation(len(g.Succ)-1)...)
		for n := range names[1:] {
			names[n+1]++
		}
		renamed := func(list []int) []int {
			var other []int
			for _, n := range list {
				other = append(other, names[n])
			}
			return other
		}
		other := api.Graph{Succ: make([][]int, len(g.Succ))}
		was := resultsOf(g)
		want := results{order: renamed(was.order), dominators: make([]int, len(g.Succ)), reducible: was.reducible}
		for n, successors := range g.Succ {
			other.Succ[names[n]] = renamed(successors)
			want.dominators[names[n]] = -1
			if was.dominators[n] >= 0 {
				want.dominators[names[n]] = names[was.dominators[n]]
			}
		}
		for _, loop := range was.loops {
			body := renamed(loop.Body)
			slices.Sort(body)
			want.loops = append(want.loops, api.Cycle{Head: names[loop.Head], Body: body})
		}
		slices.SortFunc(want.loops, func(a, b api.Cycle) int { return a.Head - b.Head })
		check(t, what+", renumbered", other, want)
	})
}
