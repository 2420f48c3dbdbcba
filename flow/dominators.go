package flow

import "slices"

// dominatorsOf returns the immediate dominator of each node, or -1.
func dominatorsOf(t tour, before sources) []int {
	dominators := repeated(-1, len(t.numbers))
	for k, dominator := range dominatorsByNumber(t, before) {
		if k > 0 {
			dominators[t.found[k]] = t.found[dominator]
		}
	}
	return dominators
}

// dominatorsByNumber returns the numbers of the immediate dominators of the nodes that were found; that of the entry is
// its own. The algorithm is that of Lengauer and Tarjan: simpler ones take a time that is, for some graphs, the square
// of their size.
func dominatorsByNumber(t tour, before sources) []int {
	f := plant(len(t.found))
	dominators := make([]int, len(t.found))
	awaiting := make([][]int, len(t.found)) // by semidominator: the nodes whose dominators are not known
	for k := len(t.found) - 1; k > 0; k-- {
		for predecessor := range before.of(t.found[k]) {
			f.semi[k] = min(f.semi[k], f.semi[f.leastTo(t.numbers[predecessor])])
		}
		awaiting[f.semi[k]] = append(awaiting[f.semi[k]], k)
		finder := t.finders[k]
		f.above[k] = finder
		for _, n := range awaiting[finder] {
			// Either the finder, which is the semidominator of n, dominates n, or n and the least node have the same dominator.
			dominators[n] = finder
			if least := f.leastTo(n); f.semi[least] < finder {
				dominators[n] = least
			}
		}
		awaiting[finder] = nil
	}
	for k, dominator := range dominators {
		if dominator != f.semi[k] {
			dominators[k] = dominators[dominator]
		}
	}
	return dominators
}

// forest is the part of a search's tree that was looked at, with shortened paths. Nodes are given by their numbers.
type forest struct {
	// semi are the semidominators: the first nodes from which paths lead to nodes over others that were found after them.
	semi  []int
	above []int // -1 for a root
	least []int // the nodes with the least semidominators on the paths from above, which do not belong to them
}

// plant returns a forest of roots.
func plant(size int) forest {
	f := forest{above: repeated(-1, size)}
	for k := range size {
		f.semi = append(f.semi, k)
		f.least = append(f.least, k)
	}
	return f
}

// leastTo returns the node with the least semidominator on the path from a root to a node. The root does not belong to
// the path, if it is not the node.
func (f forest) leastTo(k int) int {
	var path []int
	n := k
	for f.above[n] >= 0 && f.above[f.above[n]] >= 0 {
		path = append(path, n)
		n = f.above[n]
	}
	for _, n := range slices.Backward(path) {
		above := f.above[n]
		if f.semi[f.least[above]] < f.semi[f.least[n]] {
			f.least[n] = f.least[above]
		}
		f.above[n] = f.above[above]
	}
	return f.least[k]
}
