package ir

import (
	"slices"

	"vellum/api"
	"vellum/flow"
)

// checker checks a function with blocks. The definitions of values in a program are numbered from 1 on, in the order of
// the functions, of their blocks, and of the parameters and operations.
type checker struct {
	program  *api.IrProg
	function int
	blocks   []api.IrBlock
	// numbers are, by value, the numbers of the last definitions so far, or 0. They have 32 bits, because the list is long
	// if only one value is great, and it is cleared for every program.
	numbers []int32
	before  int   // how many definitions the functions have that were checked before this one
	homes   []int // by definition of this function: the number of its block
	tree    dominatorTree
}

// site is a position in a block of a function, behind so many definitions of the function.
type site struct{ block, definitions int }

// isValid checks the function. Each check relies on those before it.
func (c *checker) isValid() bool {
	return len(c.blocks[0].Params) == c.program.Args[c.function] &&
		c.consistsOfListed() && c.definesOnce() && c.isConnected() && c.definesBeforeUse()
}

// consistsOfListed reports whether all operations, terminators and edges are such that a program may contain them.
func (c *checker) consistsOfListed() bool {
	for b := range c.blocks {
		for k := range c.blocks[b].Ops {
			if !operationFits(c.program, &c.blocks[b].Ops[k]) {
				return false
			}
		}
		if t := &c.blocks[b].Term; !terminatorFits(t) || slices.ContainsFunc(t.To, c.isNoEdge) {
			return false
		}
	}
	return true
}

// isNoEdge reports whether an edge leads to no block or to block 0, or has another number of arguments than its block.
func (c *checker) isNoEdge(e api.Edge) bool {
	return e.Block == 0 || !isIndex(e.Block, len(c.blocks)) || len(e.Args) != len(c.blocks[e.Block].Params)
}

// definesOnce numbers the definitions, and reports whether each of them is that of another value.
func (c *checker) definesOnce() bool {
	for b := range c.blocks {
		for _, v := range c.blocks[b].Params {
			if !c.define(v, b) {
				return false
			}
		}
		for k := range c.blocks[b].Ops {
			if o := &c.blocks[b].Ops[k]; hasResult(o) && !c.define(o.Res, b) {
				return false
			}
		}
	}
	return true
}

// define numbers the definition of a value in a block, and reports whether it is one that was not defined before.
func (c *checker) define(v, block int) bool {
	if !isIndex(v, len(c.numbers)) || int(c.numbers[v]) > c.before {
		return false
	}
	c.homes = append(c.homes, block)
	c.numbers[v] = int32(c.before + len(c.homes))
	return true
}

// isConnected finds which blocks dominate which, and reports whether all of them can be reached.
func (c *checker) isConnected() bool {
	graph := Graph(api.IrFunc{Blocks: c.blocks})
	order := flow.Order(graph)
	c.tree = dominatorTreeOf(order, flow.Dominators(graph))
	return len(order) == len(c.blocks)
}

// definesBeforeUse reports whether values are defined wherever they are used.
func (c *checker) definesBeforeUse() bool {
	at := site{}
	for b := range c.blocks {
		at.block = b
		at.definitions += len(c.blocks[b].Params)
		for k := range c.blocks[b].Ops {
			o := &c.blocks[b].Ops[k]
			if !c.canExecute(o, at) {
				return false
			}
			if hasResult(o) {
				at.definitions++
			}
		}
		if !c.canEnd(&c.blocks[b].Term, at) {
			return false
		}
	}
	return true
}

// canExecute reports whether all values that an operation uses are defined before it.
func (c *checker) canExecute(o *api.IrOp, at site) bool {
	f, _ := fieldsOf(o.Code)
	return (!f.has(usesA) || c.isDefined(o.A, at)) && (!f.has(usesB) || c.isDefined(o.B, at)) &&
		c.areDefined(o.Args, at)
}

// canEnd reports whether all values that a terminator and its edges use are defined before it.
func (c *checker) canEnd(t *api.Term, at site) bool {
	if usesValue(t) && !c.isDefined(t.A, at) {
		return false
	}
	for _, edge := range t.To {
		if !c.areDefined(edge.Args, at) {
			return false
		}
	}
	return true
}

// areDefined reports whether all of some values are defined before a site.
func (c *checker) areDefined(some []int, at site) bool {
	for _, v := range some {
		if !c.isDefined(v, at) {
			return false
		}
	}
	return true
}

// isDefined reports whether a number is that of a value that is defined before a site.
func (c *checker) isDefined(v int, at site) bool {
	if !isIndex(v, len(c.numbers)) || int(c.numbers[v]) <= c.before {
		return false
	}
	definition := int(c.numbers[v]) - c.before
	if home := c.homes[definition-1]; home != at.block {
		return c.tree.dominates(home, at.block)
	}
	return definition <= at.definitions
}
