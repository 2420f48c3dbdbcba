package ir

import "slices"

// dominatorTree is the tree of immediate dominators of blocks. They are numbered so that a block dominates those with
// the numbers from its own one on: a tree may be deep, and to follow the dominators would take long for each use.
type dominatorTree struct {
	numbers []int // by block
	sizes   []int // by block: how many blocks it dominates
}

// dominatorTreeOf returns the tree of the blocks in an order where each comes after its immediate dominator.
func dominatorTreeOf(order, dominators []int) dominatorTree {
	t := dominatorTree{numbers: make([]int, len(dominators)), sizes: make([]int, len(dominators))}
	for _, b := range slices.Backward(order) {
		t.sizes[b]++
		if d := dominators[b]; d >= 0 {
			t.sizes[d] += t.sizes[b]
		}
	}
	free := make([]int, len(dominators)) // by block: the least number for the next block that it dominates
	for _, b := range order {
		if d := dominators[b]; d >= 0 {
			t.numbers[b] = free[d]
			free[d] += t.sizes[b]
		}
		free[b] = t.numbers[b] + 1
	}
	return t
}

// dominates reports whether one block dominates another one.
func (t dominatorTree) dominates(d, b int) bool {
	return t.numbers[b] >= t.numbers[d] && t.numbers[b] < t.numbers[d]+t.sizes[d]
}
