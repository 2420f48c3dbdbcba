package scan_test

import (
	"fmt"
	"slices"
	"strings"

	"vellum/api"
	"vellum/isa"
)

// model reads an image byte by byte. It finds everything by repeating the sentences of the chapter until nothing
// new is found, without package image and without a queue.
type model struct {
	i     api.Image
	known map[api.Place]ways
}

func modelOf(i api.Image) model {
	return model{i: i, known: map[api.Place]ways{}}
}

// byteAt returns the byte at a place, or -1.
func (m model) byteAt(p api.Place) int {
	if p.Bank < 0 || p.Bank > 63 || p.Bank >= len(m.i.Banks) || p.Addr > 0x1fff || p.Bank > 0 && p.Addr < 0x1000 {
		return -1
	}
	if off := int(p.Addr & 0x0fff); off < len(m.i.Banks[p.Bank]) {
		return int(m.i.Banks[p.Bank][off])
	}
	return -1
}

// instruction returns the instruction at a place, or the kind of the issue that there is none.
func (m model) instruction(p api.Place) (api.Ins, api.Errno) {
	if m.byteAt(p) < 0 {
		return api.Ins{}, api.ErrExit
	}
	size := isa.Size(byte(m.byteAt(p)))
	if size == 0 {
		return api.Ins{}, api.ErrIllegal
	}
	var code []byte
	for k := range size {
		q := place(p.Bank, int(p.Addr)+k)
		if m.byteAt(q) < 0 || q.Addr/0x1000 != p.Addr/0x1000 {
			return api.Ins{}, api.ErrExit
		}
		code = append(code, byte(m.byteAt(q)))
	}
	ins, err := isa.Decode(string(code))
	if err != api.OK {
		return api.Ins{}, api.ErrIllegal
	}
	return ins, api.OK
}

// seen returns the place of an address (modulo 2^16), and whether it is known.
func seen(addr int, from api.Place) (api.Place, bool) {
	addr = (addr%65536 + 65536) % 65536
	if addr < 0x1000 || addr > 0x1fff {
		return place(0, addr), true
	}
	return place(from.Bank, addr), from.Addr >= 0x1000 && from.Addr <= 0x1fff
}

// ways are the successors and the callees of what is at a place, and the issues at this place.
type ways struct {
	next, callees map[api.Place]bool
	issues        map[api.Errno]bool
}

func (w ways) goTo(set map[api.Place]bool, p api.Place, known bool) {
	if known {
		set[p] = true
	} else {
		w.issues[api.ErrBank] = true
	}
}

var notFalling = []int{0x01, 0x02, 0x03, 0x80, 0x81, 0x83, 0x85, 0x86}

// ways returns where the instruction at a place goes.
func (m model) ways(p api.Place) ways {
	if _, ok := m.known[p]; !ok {
		m.known[p] = m.findWays(p)
	}
	return m.known[p]
}

func (m model) findWays(p api.Place) ways {
	w := ways{map[api.Place]bool{}, map[api.Place]bool{}, map[api.Errno]bool{}}
	ins, err := m.instruction(p)
	if err != api.OK {
		w.issues[err] = true
		return w
	}
	behind := int(p.Addr) + ins.Size
	if !slices.Contains(notFalling, ins.Op) {
		if behind == 0x1000 || behind == 0x2000 {
			w.issues[api.ErrExit] = true
		} else {
			w.next[place(p.Bank, behind)] = true
		}
	}
	relative, known := seen(behind+int(ins.Imm), p)
	far, _ := seen(int(ins.Imm), place(ins.Bank, 0x1000))
	switch op := ins.Op; {
	case op >= 0x60 && op <= 0x7d || op == 0x80 || op == 0x81:
		w.goTo(w.next, relative, known)
	case op == 0x82:
		w.goTo(w.callees, relative, known)
	case op == 0x83:
		w.goTo(w.next, far, true)
	case op == 0x84:
		w.goTo(w.callees, far, true)
	case op == 0x85:
		w.goTo(w.next, relative, known)
		for k := range ins.Bank {
			m.followEntry(w, p, int(ins.Aux)+2*k)
		}
	case op == 0x86:
		w.issues[api.ErrTable] = true
	case op == 0x91 && ins.Imm == 0:
		w.issues[api.ErrBank] = true
	}
	return w
}

// followEntry adds where an entry of a table leads.
func (m model) followEntry(w ways, p api.Place, addr int) {
	low, lowKnown := seen(addr, p)
	high, highKnown := seen(addr+1, p)
	switch {
	case !lowKnown || !highKnown:
		w.issues[api.ErrBank] = true
	case m.byteAt(low) < 0 || m.byteAt(high) < 0:
		w.issues[api.ErrTable] = true
	default:
		to, known := seen(m.byteAt(low)+256*m.byteAt(high), p)
		w.goTo(w.next, to, known)
	}
}

// isThunk reports whether there is a JMPF at a place.
func (m model) isThunk(p api.Place) bool {
	ins, err := m.instruction(p)
	return err == api.OK && ins.Op == 0x83
}

func sorted(set map[api.Place]bool) []api.Place {
	var list []api.Place
	for p := range set {
		list = append(list, p)
	}
	slices.SortFunc(list, func(a, b api.Place) int {
		// Addresses have 16 bits.
		return (a.Bank-b.Bank)*65536 + int(a.Addr) - int(b.Addr)
	})
	return list
}

// reached returns the places in the routine with an entry, also those without an instruction.
func (m model) reached(entry api.Place) map[api.Place]bool {
	all := map[api.Place]bool{}
	var visit func(p api.Place)
	visit = func(p api.Place) {
		if all[p] {
			return
		}
		all[p] = true
		for q := range m.ways(p).next {
			visit(q)
		}
	}
	if m.isThunk(entry) {
		return map[api.Place]bool{entry: true}
	}
	visit(entry)
	return all
}

// entries returns the entries of all routines.
func (m model) entries(more []api.Place) []api.Place {
	all := map[api.Place]bool{place(0, int(m.i.Entry)): true}
	if m.i.Vector != 0 {
		all[place(0, int(m.i.Vector))] = true
	}
	for _, p := range more {
		all[p] = true
	}
	for before := 0; before < len(all); {
		before = len(all)
		for _, entry := range sorted(all) {
			for p := range m.reached(entry) {
				w := m.ways(p)
				found := w.callees
				if m.isThunk(entry) {
					found = w.next
				}
				for q := range found {
					all[q] = true
				}
			}
		}
	}
	return sorted(all)
}

func (m model) routine(entry api.Place) api.Routine {
	r := api.Routine{Entry: entry}
	calls := map[api.Place]bool{}
	for _, p := range sorted(m.reached(entry)) {
		ins, err := m.instruction(p)
		w := m.ways(p)
		if err == api.OK {
			r.Code = append(r.Code, api.Item{At: p, Ins: ins})
		}
		for q := range w.callees {
			calls[q] = true
		}
		for _, kind := range []api.Errno{2, 11, 40, 41, 42, 45} {
			if w.issues[kind] {
				r.Issues = append(r.Issues, api.Issue{Kind: kind, At: p})
			}
		}
	}
	r.Calls = sorted(calls)
	if m.isThunk(entry) {
		r.Thunk, r.To, r.Issues = true, sorted(m.ways(entry).next)[0], nil
	}
	return r
}

// scan returns the listing.
func (m model) scan(more []api.Place) api.Listing {
	var l api.Listing
	items := map[api.Place]api.Ins{}
	for _, entry := range m.entries(more) {
		r := m.routine(entry)
		l.Routines = append(l.Routines, r)
		for _, item := range r.Code {
			items[item.At] = item.Ins
		}
	}
	if len(l.Routines) > 2000 || len(items) > 20000 {
		return api.Listing{Classes: m.classes(nil), Issues: []api.Issue{{Kind: api.ErrMany, At: place(0, int(m.i.Entry))}}}
	}
	l.Classes = m.classes(items)
	users, places := map[[2]int][]api.Place{}, map[api.Place]bool{}
	for p, ins := range items {
		for k := range ins.Size {
			at := [2]int{p.Bank, int(p.Addr&0x0fff) + k}
			users[at] = append(users[at], p)
		}
	}
	for _, list := range users {
		for _, p := range list {
			places[p] = places[p] || len(list) > 1
		}
	}
	for _, p := range sorted(places) {
		if places[p] {
			l.Issues = append(l.Issues, api.Issue{Kind: api.ErrOverlap, At: p})
		}
	}
	return l
}

// counts has a number for each byte of each bank.
type counts [][]int

func (m model) counts() counts {
	c := make(counts, len(m.i.Banks))
	for bank, bytes := range m.i.Banks {
		c[bank] = make([]int, len(bytes))
	}
	return c
}

func (c counts) add(p api.Place, k int) {
	c[p.Bank][int(p.Addr&0x0fff)+k]++
}

// classes returns the classes of all bytes if there are instructions at some places.
func (m model) classes(items map[api.Place]api.Ins) [][]byte {
	firsts, others, tables := m.counts(), m.counts(), m.counts()
	for p, ins := range items {
		firsts.add(p, 0)
		for k := 1; k < ins.Size; k++ {
			others.add(p, k)
		}
		for k := 0; ins.Op == 0x85 && k < ins.Bank; k++ {
			low, lowKnown := seen(int(ins.Aux)+2*k, p)
			high, highKnown := seen(int(ins.Aux)+2*k+1, p)
			if lowKnown && highKnown && m.byteAt(low) >= 0 && m.byteAt(high) >= 0 {
				tables.add(low, 0)
				tables.add(high, 0)
			}
		}
	}
	classes := make([][]byte, len(m.i.Banks))
	for bank, bytes := range m.i.Banks {
		for off := range len(bytes) {
			class := byte(0)
			switch {
			case firsts[bank][off]+others[bank][off] > 1:
				class = 3
			case firsts[bank][off] == 1:
				class = 1
			case others[bank][off] == 1:
				class = 2
			case tables[bank][off] > 0:
				class = 4
			case slices.ContainsFunc(m.i.Data, func(o api.Object) bool {
				return o.Bank == bank && off >= int(o.Addr) && off < int(o.Addr)+int(o.Size)
			}):
				class = 5
			}
			classes[bank] = append(classes[bank], class)
		}
	}
	return classes
}

// resolve follows thunks as often as there are routines.
func (m model) resolve(l api.Listing, p api.Place) (api.Place, bool) {
	for range len(l.Routines) + 1 {
		for _, r := range l.Routines {
			if r.Entry == p && !r.Thunk {
				return p, true
			}
			if r.Entry == p {
				p = r.To
				break
			}
		}
	}
	return api.Place{}, false
}

// text formats a listing.
func (m model) text(l api.Listing) string {
	var s strings.Builder
	at := func(p api.Place) string { return fmt.Sprintf("%d:0x%04x", p.Bank, p.Addr) }
	for _, r := range l.Routines {
		if r.Thunk {
			fmt.Fprintf(&s, "thunk %s -> %s\n", at(r.Entry), at(r.To))
		} else {
			fmt.Fprintf(&s, "routine %s\n", at(r.Entry))
		}
		for _, item := range r.Code {
			fmt.Fprintf(&s, "  %s %s\n", at(item.At), isa.Line(item.Ins, item.At))
		}
		for _, issue := range r.Issues {
			fmt.Fprintf(&s, "  ! %d %s\n", issue.Kind, at(issue.At))
		}
	}
	for _, issue := range l.Issues {
		fmt.Fprintf(&s, "! %d %s\n", issue.Kind, at(issue.At))
	}
	return s.String()
}
