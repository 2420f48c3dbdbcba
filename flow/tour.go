package flow

import (
	"slices"

	"vellum/api"
)

// deepest is how deep searches are nested at most. A goroutine's stack is limited, and a program cannot recover from
// its overflow.
const deepest = 5000

// tour is what a depth-first search of a graph finds: the nodes that can be reached. Their numbers are their positions
// in the order in which their searches begin.
type tour struct {
	found   []int // by number: the nodes
	finders []int // by number: the number of the node whose search found this one, or -1
	numbers []int // by node: its number, or -1
	ended   []int // the nodes in the order in which their searches end
}

// stage is the search of a node from one of its successors on.
type stage struct{ node, next int }

// tourOf searches a valid graph from its entry.
func tourOf(g api.Graph) tour {
	t := tour{numbers: repeated(-1, len(g.Succ))}
	find := func(n, finder int) stage {
		t.numbers[n] = len(t.found)
		t.found = append(t.found, n)
		t.finders = append(t.finders, finder)
		return stage{node: n}
	}
	// search returns what is left to do, the innermost search first, if searches are nested too deep.
	var search func(s stage, depth int) []stage
	search = func(s stage, depth int) []stage {
		if depth > deepest {
			return []stage{s}
		}
		for k, n := range g.Succ[s.node][s.next:] {
			if t.numbers[n] >= 0 {
				continue
			}
			if left := search(find(n, t.numbers[s.node]), depth+1); len(left) > 0 {
				return append(left, stage{node: s.node, next: s.next + k + 1})
			}
		}
		t.ended = append(t.ended, s.node)
		return nil
	}
	for todo := []stage{find(0, -1)}; len(todo) > 0; {
		innermost := len(todo) - 1
		left := search(todo[innermost], 1)
		slices.Reverse(left)
		todo = append(todo[:innermost], left...)
	}
	return t
}

// repeated returns a list of equal numbers.
func repeated(number, length int) []int {
	return slices.Repeat([]int{number}, length)
}
