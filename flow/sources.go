package flow

import (
	"iter"

	"vellum/api"
)

// sources are the predecessors of nodes: chains of links in one list, which needs less memory than a list for each node.
type sources struct {
	last  []int // by node: the number of the last link of its chain, or -1
	links []link
}

// link is one predecessor of a node, and the number of the link before it.
type link struct{ node, before int }

// sourcesOf returns the predecessors among some nodes.
func sourcesOf(g api.Graph, nodes []int) sources {
	s := sources{last: repeated(-1, len(g.Succ))}
	for _, n := range nodes {
		for _, successor := range g.Succ[n] {
			// The edges from one node follow each other, so a repeated one is the last link of its chain.
			if last := s.last[successor]; last < 0 || s.links[last].node != n {
				s.last[successor] = len(s.links)
				s.links = append(s.links, link{node: n, before: last})
			}
		}
	}
	return s
}

// of ranges over the predecessors of a node, each of them once.
func (s sources) of(n int) iter.Seq[int] {
	return func(yield func(int) bool) {
		for k := s.last[n]; k >= 0; k = s.links[k].before {
			if !yield(s.links[k].node) {
				return
			}
		}
	}
}
