package scan_test

import (
	"strings"
	"testing"

	"vellum/api"
	"vellum/scan"
)

// checkMany checks whether a limit is exceeded.
func checkMany(t *testing.T, what string, i api.Image, more []api.Place, want bool) api.Listing {
	t.Helper()
	l := scan.Scan(i, more)
	got := len(l.Routines) == 0
	if got != want {
		t.Errorf("%s: %d routines, and issues%s; ErrMany wanted: %v", what, len(l.Routines), showIssues(l.Issues[:min(len(l.Issues), 9)]), want)
	}
	if got {
		checkEqual(t, what, l, api.Listing{Classes: modelOf(i).classes(nil), Issues: []api.Issue{{Kind: api.ErrMany, At: place(0, int(i.Entry))}}})
	}
	return l
}

// hltImage is an image of HLT only.
func hltImage(banks int) api.Image {
	var i api.Image
	for range banks {
		i.Banks = append(i.Banks, strings.Repeat(hlt, api.BankSize))
	}
	return i
}

// places returns places from an address on.
func places(bank, addr, n int) []api.Place {
	var list []api.Place
	for k := range n {
		list = append(list, place(bank, addr+k))
	}
	return list
}

func TestP5_2_Entries(t *testing.T) {
	i := hltImage(1)
	i.Entry = 1
	checkMany(t, "2000", i, places(0, 2, 1999), false)
	checkMany(t, "2001", i, places(0, 2, 2000), true)
	checkMany(t, "2000 with others twice", i, append(places(0, 0, 2000), places(0, 0, 2000)...), false)
	i.Vector = 2
	checkMany(t, "2000 with Vector", i, places(0, 3, 1998), false)
	checkMany(t, "2001 with Vector", i, places(0, 3, 1999), true)
	i.Vector = 1
	checkMany(t, "2000 if Vector is Entry", i, places(0, 3, 1999), false)
	i = api.Image{}
	checkMany(t, "2000 that do not exist", i, places(-3, 0x4000, 1999), false)
	checkMany(t, "2001 that do not exist", i, places(-3, 0x4000, 2000), true)
	checkMany(t, "the same addresses with and without the window", hltImage(1), append(places(0, 0, 1000), places(0, 0x1000, 1000)...), false)
	checkMany(t, "one more", hltImage(1), append(places(0, 0, 1000), places(0, 0x1000, 1001)...), true)
}

// callsImage calls n functions from bank 0 that are different, which are given by a short code.
func callsImage(n int, op int, banks int) (api.Image, []api.Place) {
	i := hltImage(banks)
	var more []api.Place
	for k := range n {
		code := encoded(api.Ins{Op: op, Bank: 2, Imm: uint16(0x1000 + k)})
		i = changed(i, k/1000, 4*(k%1000), code)
		if op == api.JMPF {
			more = append(more, place(k/1000, 0x1000+4*(k%1000)))
		}
	}
	return i, more
}

func TestP5_2_EntriesThatAreFound(t *testing.T) {
	calls, _ := callsImage(1000, api.CALLF, 3)
	checkMany(t, "2000 with 1000 callees", calls, places(1, 0x1000, 999), false)
	checkMany(t, "2001 with 1000 callees", calls, places(1, 0x1000, 1000), true)
	thunks, more := callsImage(999, api.JMPF, 3)
	thunks.Entry = 0x0ffe
	checkMany(t, "1999 with 999 thunks and their targets", thunks, more, false)
	checkMany(t, "2000 with 999 thunks and their targets", thunks, append(more, place(1, 0x1000)), false)
	checkMany(t, "2001 with 999 thunks and their targets", thunks, append(more, places(1, 0x1000, 2)...), true)
	// Every thunk is the target of the one before it.
	chain := func(n int) api.Image {
		i := hltImage(3)
		for k := range n {
			i = changed(i, k/1000, 4*(k%1000), encoded(api.Ins{Op: api.JMPF, Bank: (k + 1) / 1000, Imm: uint16(0x1000 + 4*((k+1)%1000))}))
		}
		return i
	}
	i := chain(1998)
	checkMany(t, "2000 in a chain", i, nil, false)
	checkMany(t, "2001 in a chain", chain(1999), []api.Place{place(0, 0x1000)}, true)
	if to, ok := scan.Resolve(scan.Scan(i, nil), place(0, 0)); !ok || to != place(1, 0x1000+4*998) {
		t.Errorf("the end of the chain: %s, %v", show(to), ok)
	}
}

// nopImage starts with HLT in bank 0, followed by banks of NOP.
func nopImage() api.Image {
	i := zeroImage(6)
	i.Banks[0] = strings.Repeat(hlt, api.BankSize)
	return i
}

func TestP5_2_Instructions(t *testing.T) {
	whole := []api.Place{place(1, 0x1000), place(2, 0x1000), place(3, 0x1000), place(4, 0x1000)}
	// 1 HLT, 4 times 4096 NOP, and what follows in bank 5.
	last := 0x2000 - (20000 - 1 - 4*4096)
	checkMany(t, "20000", nopImage(), append(whole, place(5, last)), false)
	checkMany(t, "20001", nopImage(), append(whole, place(5, last-1)), true)
	checkMany(t, "some of them in several routines", nopImage(), append(whole, place(5, last), place(5, last+7), place(3, 0x1777), place(0, 0)), false)
	checkMany(t, "one more HLT", nopImage(), append(whole, place(5, last), place(0, 1)), true)
	checkMany(t, "one more in the window", nopImage(), append(whole, place(5, last), place(0, 0x1000)), true)
	checkMany(t, "more places without an instruction", nopImage(), append(append(whole, place(5, last)), places(0, 0x2000, 1000)...), false)
	thunk := changed(nopImage(), 0, 0x10, encoded(api.Ins{Op: api.JMPF, Bank: 1, Imm: 0x1000}))
	checkMany(t, "20000 with a thunk", thunk, append(whole, place(5, last+1), place(0, 0x10)), false)
	checkMany(t, "20001 with a thunk", thunk, append(whole, place(5, last), place(0, 0x10)), true)
	checkMany(t, "20000 with a thunk that is passed", changed(thunk, 0, 0x0f, "\x00"), append(whole, place(5, last+2), place(0, 0x0f), place(0, 0x10)), false)
	checkMany(t, "20001 with a thunk that is passed", changed(thunk, 0, 0x0f, "\x00"), append(whole, place(5, last+1), place(0, 0x0f), place(0, 0x10)), true)
}

func TestP5_2_NoRoutinesAndOneIssue(t *testing.T) {
	i := hltImage(2)
	i.Banks[1] = "\x00\x00\x00"
	i.Entry, i.Vector = 0x0123, 0x1123
	i.Data = []api.Object{{Bank: 0, Addr: 0x122, Size: 3}, {Bank: 1, Addr: 1, Size: 9}}
	l := checkMany(t, "many", i, append([]api.Place{place(-1, 5)}, places(0, 0, 2000)...), true)
	checkIssues(t, "many", l, " 2@0:123")
	checkClasses(t, "many", l, 0, 0x120, 0, 0, 5, 5, 5, 0)
	checkClasses(t, "many", l, 1, 0, 0, 5, 5)
	if text := scan.Text(i, l); text != "! 2 0:0x0123\n" {
		t.Errorf("text: %q", text)
	}
	if path := scan.Why(i, l, place(0, 0x0123)); len(path) != 0 {
		t.Errorf("Why: %v", path)
	}
	if _, ok := scan.Resolve(l, place(0, 0x0123)); ok {
		t.Error("Resolve")
	}
}

func TestP5_2_ManyRoutinesWithMuchCode(t *testing.T) {
	l := checkMany(t, "2000 routines in a bank of NOP", zeroImage(1), places(0, 0, 2000), false)
	for n, r := range l.Routines {
		if r.Entry != place(0, n) || len(r.Code) != 4096-n || r.Code[0].At != r.Entry || len(r.Issues) != 1 {
			t.Fatalf("routine %d: %d instructions, issues%s", n, len(r.Code), showIssues(r.Issues))
		}
	}
}
