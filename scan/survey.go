package scan

import "vellum/api"

// flood processes the first things, and all things that are reached while others are processed: each once, in the
// order in which they were reached. reach returns whether it was for the first time. When process returns false,
// nothing more is processed, and flood returns false.
func flood[T comparable](first []T, process func(thing T, reach func(T) bool) bool) bool {
	reached := map[T]bool{}
	var queue []T
	reach := func(thing T) bool {
		if reached[thing] {
			return false
		}
		reached[thing] = true
		queue = append(queue, thing)
		return true
	}
	for _, thing := range first {
		reach(thing)
	}
	for n := 0; n < len(queue); n++ {
		if !process(queue[n], reach) {
			return false
		}
	}
	return true
}

// visit is a piece of work: a place that is an entry, or one that is reached within a routine that is no thunk.
type visit struct {
	at      api.Place
	asEntry bool
}

// firstEntries returns the visits with which a survey of an image begins.
func firstEntries(i api.Image, more []api.Place) []visit {
	first := []visit{{at: api.Place{Addr: i.Entry}, asEntry: true}}
	if i.Vector != 0 {
		first = append(first, visit{at: api.Place{Addr: i.Vector}, asEntry: true})
	}
	for _, at := range more {
		first = append(first, visit{at: at, asEntry: true})
	}
	return first
}

// survey is what is found in an image while its code is followed from the entries.
type survey struct {
	image        api.Image
	spots        map[api.Place]*spot // what is at the places that were visited
	entries      []api.Place
	instructions int
}

// process visits a place, and returns whether the limits are kept.
func (s *survey) process(v visit, reach func(visit) bool) bool {
	here := s.find(v.at)
	if v.asEntry {
		s.entries = append(s.entries, v.at)
	}
	switch {
	case !v.asEntry:
		for _, next := range here.next {
			reach(visit{at: next})
		}
		for _, callee := range here.callees {
			reach(visit{at: callee, asEntry: true})
		}
	case here.isThunk():
		// Its target is an entry, and not a part of this routine.
		reach(visit{at: here.next[0], asEntry: true})
	default:
		reach(visit{at: v.at})
	}
	return len(s.entries) <= api.MaxFuncs && s.instructions <= api.MaxIns
}

// find returns what is at a place, and remembers it.
func (s *survey) find(at api.Place) *spot {
	if known := s.spots[at]; known != nil {
		return known
	}
	found := look(s.image, at)
	s.spots[at] = &found
	if found.isInstruction() {
		s.instructions++
	}
	return &found
}
