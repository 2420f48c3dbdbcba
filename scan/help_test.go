package scan_test

import (
	"encoding/binary"
	"fmt"
	"slices"
	"strings"
	"testing"

	"vellum/api"
	"vellum/isa"
	"vellum/scan"
)

// place returns a place with an address modulo 2^16.
func place(bank, addr int) api.Place {
	return api.Place{Bank: bank, Addr: uint16(addr)}
}

// encoded returns the bytes of instructions, whose sizes are filled in.
func encoded(list ...api.Ins) string {
	var code strings.Builder
	for _, ins := range list {
		ins.Size = isa.Size(byte(ins.Op))
		s, err := isa.Encode(ins)
		if err != api.OK {
			panic(fmt.Sprintf("the test has a wrong instruction: %+v", ins))
		}
		code.WriteString(s)
	}
	return code.String()
}

// bankWith returns a bank that is full of 0xff, which is no instruction, but for the bytes at some offsets.
func bankWith(parts map[int]string) string {
	b := []byte(strings.Repeat("\xff", api.BankSize))
	for off, s := range parts {
		copy(b[off:], s)
	}
	return string(b)
}

// imageWith returns an image with banks like bankWith, which starts at 0.
func imageWith(banks ...map[int]string) api.Image {
	var i api.Image
	for _, parts := range banks {
		i.Banks = append(i.Banks, bankWith(parts))
	}
	return i
}

// zeroImage returns an image with banks of zeros, which are NOP.
func zeroImage(banks int) api.Image {
	var i api.Image
	for range banks {
		i.Banks = append(i.Banks, strings.Repeat("\x00", api.BankSize))
	}
	return i
}

// changed returns an image in which bytes of a bank are replaced.
func changed(i api.Image, bank, off int, bytes string) api.Image {
	b := []byte(i.Banks[bank])
	copy(b[off:], bytes)
	i.Banks = slices.Clone(i.Banks)
	i.Banks[bank] = string(b)
	return i
}

// show formats a place for comparisons.
func show(p api.Place) string {
	return fmt.Sprintf("%d:%x", p.Bank, p.Addr)
}

func showIssues(issues []api.Issue) string {
	var s string
	for _, issue := range issues {
		s += fmt.Sprintf(" %d@%s", issue.Kind, show(issue.At))
	}
	return s
}

// showRoutine formats a routine as `entry: places of code; calls; issues`.
func showRoutine(r api.Routine) string {
	s := show(r.Entry)
	if r.Thunk || r.To != (api.Place{}) {
		s += fmt.Sprintf(" %v>%s", r.Thunk, show(r.To))
	}
	s += ":"
	for _, item := range r.Code {
		s += " " + show(item.At)
	}
	s += ";"
	for _, p := range r.Calls {
		s += " " + show(p)
	}
	return s + ";" + showIssues(r.Issues)
}

func showRoutines(l api.Listing) []string {
	var list []string
	for _, r := range l.Routines {
		list = append(list, showRoutine(r))
	}
	return list
}

// checkRoutines checks the routines of an image as showRoutine formats them, and their instructions, and that the
// listing is that of the model.
func checkRoutines(t *testing.T, what string, i api.Image, more []api.Place, want ...string) api.Listing {
	t.Helper()
	l := scan.Scan(i, more)
	if got := showRoutines(l); !slices.Equal(got, want) {
		t.Errorf("%s:\n%q, want\n%q", what, got, want)
	}
	checkEqual(t, what, l, modelOf(i).scan(more))
	return l
}

// checkEqual compares two listings completely.
func checkEqual(t *testing.T, what string, got, want api.Listing) {
	t.Helper()
	if !slices.EqualFunc(got.Routines, want.Routines, sameRoutine) {
		t.Fatalf("%s: routines\n%q, want\n%q", what, showRoutines(got), showRoutines(want))
	}
	if !slices.Equal(got.Issues, want.Issues) {
		t.Fatalf("%s: issues%s, want%s", what, showIssues(got.Issues), showIssues(want.Issues))
	}
	if len(got.Classes) != len(want.Classes) {
		t.Fatalf("%s: classes of %d banks, want %d", what, len(got.Classes), len(want.Classes))
	}
	for bank := range got.Classes {
		if len(got.Classes[bank]) != len(want.Classes[bank]) {
			t.Fatalf("%s: %d classes of bank %d, want %d", what, len(got.Classes[bank]), bank, len(want.Classes[bank]))
		}
		for off, class := range got.Classes[bank] {
			if class != want.Classes[bank][off] {
				t.Fatalf("%s: class %d of byte %#x of bank %d, want %d", what, class, off, bank, want.Classes[bank][off])
			}
		}
	}
}

func sameRoutine(a, b api.Routine) bool {
	return a.Entry == b.Entry && a.Thunk == b.Thunk && a.To == b.To &&
		slices.Equal(a.Code, b.Code) && slices.Equal(a.Calls, b.Calls) && slices.Equal(a.Issues, b.Issues)
}

// cloned returns a listing that shares no memory with another one.
func cloned(l api.Listing) api.Listing {
	c := api.Listing{Routines: slices.Clone(l.Routines), Issues: slices.Clone(l.Issues)}
	for _, bank := range l.Classes {
		c.Classes = append(c.Classes, slices.Clone(bank))
	}
	for n, r := range c.Routines {
		c.Routines[n].Code, c.Routines[n].Calls, c.Routines[n].Issues = slices.Clone(r.Code), slices.Clone(r.Calls), slices.Clone(r.Issues)
	}
	return c
}

// checkClasses checks the first classes of a bank.
func checkClasses(t *testing.T, what string, l api.Listing, bank, off int, want ...byte) {
	t.Helper()
	if got := l.Classes[bank][off : off+len(want)]; !slices.Equal(got, want) {
		t.Errorf("%s: classes of bank %d from %#x on: %v, want %v", what, bank, off, got, want)
	}
}

// checkIssues checks the issues of a listing.
func checkIssues(t *testing.T, what string, l api.Listing, want string) {
	t.Helper()
	if got := showIssues(l.Issues); got != want {
		t.Errorf("%s: issues%s, want%s", what, got, want)
	}
}

// random is a sequence of numbers that is the same in each run.
type random uint64

func (r *random) next() uint64 {
	*r += 0x9e3779b97f4a7c15
	x := uint64(*r)
	x = (x ^ x>>30) * 0xbf58476d1ce4e5b9
	x = (x ^ x>>27) * 0x94d049bb133111eb
	return x ^ x>>31
}

func (r *random) below(n int) int { return int(r.next() % uint64(n)) }

func pick[T any](r *random, list ...T) T { return list[r.below(len(list))] }

// borders are addresses near the ends of the parts of code addresses.
var borders = []int{0, 1, 2, 0x0ff8, 0x0ffd, 0x0ffe, 0x0fff, 0x1000, 0x1001, 0x1002, 0x1ff8, 0x1ffd, 0x1ffe, 0x1fff, 0x2000, 0x2001, 0x4000, 0x5fff, 0x8000, 0xfffe, 0xffff}

// area is the size of the part of a bank where its code begins; it has an instruction at every multiple of slot, and
// is followed by a table of addresses.
const (
	area  = 0x80
	slot  = 8
	table = 0x40
)

// offset returns an offset in the area, which is often that of a slot.
func (r *random) offset() int {
	if r.below(8) == 0 {
		return r.below(area)
	}
	return slot * r.below(area/slot)
}

// addr returns an address, which is often one of code.
func (r *random) addr() uint16 {
	switch r.below(16) {
	case 0:
		return uint16(pick(r, borders...))
	case 1:
		return uint16(r.next())
	case 2, 3, 4, 5, 6, 7:
		return uint16(r.offset())
	}
	return uint16(0x1000 + r.offset())
}

// place returns a place that is often, but not always, one of code.
func (r *random) place() api.Place {
	p := api.Place{Bank: pick(r, 0, r.below(4), r.below(4), r.below(4), pick(r, 0, 63, 64, -1, 1<<40)), Addr: r.addr()}
	if p.Bank > 0 && p.Addr < 0x1000 && r.below(4) > 0 {
		p.Addr += 0x1000
	}
	return p
}

// jumps are the instructions that decide what is reached; they are more frequent than others.
var jumps = []int{api.JCC, api.JCC + 5, api.JCC + 0x1d, api.JMP, api.JMPW, api.CALL, api.JMPF, api.JMPF, api.CALLF, api.CALLF, api.JTAB, api.JTAB, api.JTAB, api.JMPI, api.OUT}

// instruction returns the bytes of a valid instruction at an offset, or a byte that is none.
func (r *random) instruction(off int) string {
	op := pick(r, r.below(256), pick(r, jumps...), pick(r, jumps...), pick(r, jumps...), api.NOP, pick(r, api.NOP, api.RET))
	size := isa.Size(byte(op))
	if size == 0 {
		return pick(r, string([]byte{byte(op)}), "", "", "", "")
	}
	ins := api.Ins{Op: op, Imm: uint16(r.offset() - off - size), Bank: pick(r, 1, 2, 3, 3, 3, 1+r.below(63)), Aux: r.addr(), Size: size}
	if r.below(3) > 0 {
		ins.Aux = uint16(pick(r, 0, 0x1000) + area + r.below(table))
	}
	if r.below(6) == 0 || op == api.JMPF || op == api.CALLF {
		ins.Imm = r.addr()
	}
	if op == api.OUT {
		ins.Imm = uint16(r.below(2))
	}
	for _, try := range []api.Ins{
		ins, {Op: op, Imm: ins.Imm, Bank: ins.Bank}, {Op: op, Imm: ins.Imm, Aux: ins.Aux}, {Op: op, Imm: ins.Imm}, {Op: op, Imm: uint16(r.below(0x28))}, {Op: op},
	} {
		try.Size = size
		if code, err := isa.Encode(try); err == api.OK {
			return code
		}
	}
	panic("the test knows no instruction with this operation")
}

// bank returns a bank with instructions and tables near its beginning and its end, and sometimes of another size.
func (r *random) bank() string {
	b := []byte(strings.Repeat(pick(r, "\xff", "\xff", "\x02", "\x02", pick(r, "\x00", "\x01")), api.BankSize))
	clear(b[:area])
	for off := 0; off < area; off += slot {
		copy(b[off:area], r.instruction(off))
	}
	for off := api.BankSize - 0x20; off < api.BankSize; {
		off += copy(b[off:], r.instruction(off))
	}
	for off := area; off < area+table; off += 2 {
		binary.LittleEndian.PutUint16(b[off:], r.addr())
	}
	for range r.below(3) {
		binary.LittleEndian.PutUint16(b[pick(r, r.below(area), api.BankSize-2):], r.addr())
	}
	switch r.below(10) {
	case 0:
		return string(b[:r.below(area)])
	case 1:
		return string(b) + "\x00\x00\x02"
	}
	return string(b)
}

func (r *random) image() api.Image {
	i := api.Image{Entry: r.addr(), Vector: pick(r, 0, r.addr())}
	for range pick(r, 0, 1, 2, 3, 4, 4, 4, 4) {
		i.Banks = append(i.Banks, r.bank())
	}
	if r.below(10) == 0 {
		for len(i.Banks) < 66 {
			i.Banks = append(i.Banks, "\x02\x02\x02")
		}
	}
	for range r.below(4) {
		i.Data = append(i.Data, api.Object{Bank: pick(r, api.RamBank, r.below(4), r.below(4), 65, -2), Addr: r.addr() & 0x1fff, Size: pick(r, 0, 1, uint16(r.below(0x40)), uint16(r.next()))})
	}
	return i
}

func (r *random) more() []api.Place {
	var more []api.Place
	for range r.below(7) {
		more = append(more, r.place())
	}
	return more
}
