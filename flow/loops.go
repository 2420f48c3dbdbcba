package flow

import "slices"

// dominatorTree is the tree of immediate dominators. Its nodes are numbered so that a node dominates those with the
// numbers from its own one on: to follow the dominators of a node would take longer in a deep tree.
type dominatorTree struct {
	numbers []int // by node
	sizes   []int // by node: how many nodes it dominates
}

// dominatorTreeOf returns the tree of the nodes in an order where each comes after its immediate dominator.
func dominatorTreeOf(order, dominators []int) dominatorTree {
	t := dominatorTree{numbers: make([]int, len(dominators)), sizes: make([]int, len(dominators))}
	for _, n := range slices.Backward(order) {
		t.sizes[n]++
		if dominator := dominators[n]; dominator >= 0 {
			t.sizes[dominator] += t.sizes[n]
		}
	}
	free := make([]int, len(dominators)) // by node: the least number for the next node that it dominates
	for _, n := range order {
		if dominator := dominators[n]; dominator >= 0 {
			t.numbers[n] = free[dominator]
			free[dominator] += t.sizes[n]
		}
		free[n] = t.numbers[n] + 1
	}
	return t
}

// dominates reports whether one node that can be reached dominates another one.
func (t dominatorTree) dominates(d, n int) bool {
	return t.numbers[n] >= t.numbers[d] && t.numbers[n] < t.numbers[d]+t.sizes[d]
}

// bodyCollector returns a function that returns the nodes of the natural loop with a head and the tails of its back
// edges. It must be called once at most for each head.
func bodyCollector(before sources, size int) func(head int, tails []int) []int {
	// By node, the head of the last loop that contains it: to clear a list for each loop would take long if there are many.
	lastHeads := repeated(-1, size)
	return func(head int, tails []int) []int {
		body := []int{head}
		lastHeads[head] = head
		add := func(n int) {
			if lastHeads[n] != head {
				lastHeads[n] = head
				body = append(body, n)
			}
		}
		for _, n := range tails {
			add(n)
		}
		for k := 1; k < len(body); k++ {
			for n := range before.of(body[k]) {
				add(n)
			}
		}
		slices.Sort(body)
		return body
	}
}
