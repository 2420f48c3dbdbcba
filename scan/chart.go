package scan

import (
	"cmp"
	"maps"
	"slices"

	"vellum/api"
)

// chart is all that was found in an image, in the order of places. Successors are numbers, because places would
// have to be looked up again for every routine that contains them.
type chart struct {
	spots []*spot
	next  [][]int
	// numbers are the positions of places in spots.
	numbers map[api.Place]int
}

// chartOf returns the chart of a complete survey: all successors have been found, too.
func chartOf(found map[api.Place]*spot) chart {
	c := chart{numbers: map[api.Place]int{}}
	for n, at := range slices.SortedFunc(maps.Keys(found), comparePlaces) {
		c.numbers[at] = n
		c.spots = append(c.spots, found[at])
	}
	for _, s := range c.spots {
		next := make([]int, 0, len(s.next))
		for _, to := range s.next {
			next = append(next, c.numbers[to])
		}
		c.next = append(c.next, next)
	}
	return c
}

// comparePlaces is the order of places.
func comparePlaces(a, b api.Place) int {
	return cmp.Or(cmp.Compare(a.Bank, b.Bank), cmp.Compare(a.Addr, b.Addr))
}

// routines returns the routines with some entries, in order.
func (c chart) routines(entries []api.Place) []api.Routine {
	routines := make([]api.Routine, 0, len(entries))
	for _, entry := range slices.SortedFunc(slices.Values(entries), comparePlaces) {
		first := c.numbers[entry]
		if s := c.spots[first]; s.isThunk() {
			routines = append(routines, api.Routine{Entry: entry, Thunk: true, To: s.next[0], Code: []api.Item{s.item}})
		} else {
			routines = append(routines, c.routine(first))
		}
	}
	return routines
}

// routine returns the routine that is no thunk, and whose entry has a number.
func (c chart) routine(first int) api.Routine {
	members := c.reachable(first)
	r := api.Routine{Entry: c.spots[first].item.At, Code: make([]api.Item, 0, len(members))}
	for _, n := range members {
		s := c.spots[n]
		if s.isInstruction() {
			r.Code = append(r.Code, s.item)
		}
		for _, kind := range s.issues {
			r.Issues = append(r.Issues, api.Issue{Kind: kind, At: s.item.At})
		}
		r.Calls = append(r.Calls, s.callees...)
	}
	slices.SortFunc(r.Calls, comparePlaces)
	r.Calls = slices.Compact(r.Calls)
	return r
}

// reachable returns the numbers of all that is reached by successors, in order.
func (c chart) reachable(first int) []int {
	isReached := make([]bool, len(c.spots))
	isReached[first] = true
	reached := []int{first}
	for k := 0; k < len(reached); k++ {
		for _, n := range c.next[reached[k]] {
			if !isReached[n] {
				isReached[n] = true
				reached = append(reached, n)
			}
		}
	}
	slices.Sort(reached)
	return reached
}
