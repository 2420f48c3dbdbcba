package scan_test

import (
	"slices"
	"testing"

	"vellum/api"
	"vellum/scan"
)

// checkWhy checks all that P5.5 says of a path.
func checkWhy(t *testing.T, what string, i api.Image, l api.Listing, p api.Place) []api.Place {
	t.Helper()
	path, m := scan.Why(i, l, p), modelOf(i)
	exists := m.byteAt(p) >= 0
	if !exists || !slices.Contains([]byte{1, 2, 3}, l.Classes[p.Bank][p.Addr&0x0fff]) {
		if len(path) > 0 {
			t.Fatalf("%s: Why(%s): %v, want nothing", what, show(p), path)
		}
		return path
	}
	if len(path) == 0 {
		t.Fatalf("%s: Why(%s): nothing", what, show(p))
	}
	if !slices.ContainsFunc(l.Routines, func(r api.Routine) bool { return r.Entry == path[0] }) {
		t.Fatalf("%s: Why(%s): %v, which does not begin with an entry", what, show(p), path)
	}
	for k := 1; k < len(path); k++ {
		if !m.ways(path[k-1]).next[path[k]] {
			t.Fatalf("%s: Why(%s): %v, in which %s is not a successor", what, show(p), path, show(path[k]))
		}
	}
	last := path[len(path)-1]
	ins, err := m.instruction(last)
	if behind := int(p.Addr&0x0fff) - int(last.Addr&0x0fff); err != api.OK || last.Bank != p.Bank || behind < 0 || behind >= ins.Size {
		t.Fatalf("%s: Why(%s): %v, whose last instruction does not contain the byte", what, show(p), path)
	}
	return path
}

func TestP5_5_Example(t *testing.T) {
	i := changed(zeroImage(1), 0, 0, "\x60\x01\x02\x30\x00\x07\x02")
	l := scan.Scan(i, nil)
	for off, want := range [][]api.Place{places(0, 0, 1), places(0, 0, 1), {place(0, 0), place(0, 2)}, {place(0, 0), place(0, 3)}, {place(0, 0), place(0, 3)}, {place(0, 0), place(0, 3)}, {place(0, 0), place(0, 3), place(0, 6)}, nil} {
		for _, p := range []api.Place{place(0, off), place(0, 0x1000+off)} {
			if path := checkWhy(t, "example", i, l, p); !slices.Equal(path, want) {
				t.Errorf("%s: %v, want %v", show(p), path, want)
			}
		}
	}
}

func TestP5_5_Nothing(t *testing.T) {
	i := changed(hltImage(2), 0, 0, "\x85\x00\x02\x20\x00\x00\x02")
	i.Data = []api.Object{{Bank: 1, Addr: 0x30, Size: 2}}
	l := scan.Scan(i, []api.Place{place(1, 0x1000), place(-1, 7)})
	for what, p := range map[string]api.Place{
		"not reached": place(0, 0x300), "a table": place(0, 0x200), "a constant": place(1, 0x1030),
		"no bank": place(2, 0x1000), "bank -1": place(-1, 0x1000), "an entry that does not exist": place(-1, 7), "bank 1 below the window": place(1, 0),
		"behind bank 0 and the window": place(0, 0x2000), "RAM": place(0, 0x4000), "the last address": place(0, 0xffff), "bank 64": place(64, 0x1000),
	} {
		if path := checkWhy(t, what, i, l, p); len(path) > 0 {
			t.Errorf("%s: %v", what, path)
		}
	}
	// The classes of the listing decide, also if they are not those of the image.
	l = scan.Scan(i, nil)
	for _, class := range []byte{api.Unknown, api.Table, api.Const, 6, 255} {
		l.Classes[0][0] = class
		if path := checkWhy(t, "another class", i, l, place(0, 0)); len(path) > 0 {
			t.Errorf("class %d: %v", class, path)
		}
	}
	for _, classes := range [][][]byte{nil, {}, {nil, nil}, {{}}} {
		l.Classes = classes
		if path := scan.Why(i, l, place(0, 0)); len(path) > 0 {
			t.Errorf("no class: %v", path)
		}
	}
	short := api.Image{Banks: []string{"\x02\x02"}}
	for addr := range 4 {
		checkWhy(t, "a short bank", short, scan.Scan(short, []api.Place{place(0, 1)}), place(0, addr))
	}
}

func TestP5_5_Paths(t *testing.T) {
	jmpf := encoded(api.Ins{Op: api.JMPF, Bank: 1, Imm: 0x1010})
	i := changed(hltImage(2), 0, 0, "\x82\x2d\x00\x60\x2b\x81\xf8\xff")
	i = changed(changed(i, 0, 0x30, jmpf), 1, 0x10, "\x00\x30\x00\x01")
	l := scan.Scan(i, nil)
	for off := range 0x40 {
		checkWhy(t, "bank 0", i, l, place(0, off))
		checkWhy(t, "bank 1", i, l, place(1, 0x1000+off))
	}
	// 0x30 is a thunk, and also in the routine at 0.
	if path := scan.Why(i, l, place(0, 0x33)); !slices.Equal(path, []api.Place{place(0, 0), place(0, 3), place(0, 0x30)}) && !slices.Equal(path, places(0, 0x30, 1)) {
		t.Errorf("thunk: %v", path)
	}
	// Only a thunk.
	i.Entry = 0x30
	l = scan.Scan(i, nil)
	if path := checkWhy(t, "only a thunk", i, l, place(0, 0x33)); !slices.Equal(path, places(0, 0x30, 1)) {
		t.Errorf("only a thunk: %v", path)
	}
	// A byte that is reached in the window only, and one that is reached below it, too.
	i = changed(hltImage(1), 0, 0x20, "\x00\x30\x00\x07")
	for _, more := range [][]api.Place{{place(0, 0x1020)}, {place(0, 0x1020), place(0, 0x22)}, {place(0, 0x20), place(0, 0x1022)}} {
		l = scan.Scan(i, more)
		for off := range 0x30 {
			checkWhy(t, "bank 0", i, l, place(0, off))
			checkWhy(t, "bank 0 in the window", i, l, place(0, 0x1000+off))
		}
	}
}

func TestP5_5_TablesAndLoops(t *testing.T) {
	i := tableImage(place(1, 0x1100), 3, 0x1200, 0x200, "\x08\x00\x50\x13\x52\x13")
	i = changed(i, 1, 0x350, "\x80\xfe\x71\x00\xfd\x91\x00\x00\x80\xf9")
	l := scan.Scan(i, []api.Place{place(1, 0x1100)})
	for off := range 0x400 {
		checkWhy(t, "bank 0", i, l, place(0, off))
		checkWhy(t, "bank 1", i, l, place(1, 0x1000+off))
	}
	i = zeroImage(1)
	l = scan.Scan(i, nil)
	if path := checkWhy(t, "a long way", i, l, place(0, 0x0fff)); len(path) != 4096 {
		t.Errorf("a long way: %d places", len(path))
	}
}

func routine(entry api.Place) api.Routine { return api.Routine{Entry: entry} }
func thunk(entry, to api.Place) api.Routine {
	return api.Routine{Entry: entry, Thunk: true, To: to}
}

func TestP5_6_Resolve(t *testing.T) {
	at := func(n int) api.Place { return place(n%3, 0x1000+n) }
	// The routines of a listing need not be in order.
	l := api.Listing{Routines: []api.Routine{
		routine(at(9)), thunk(at(5), at(9)), thunk(at(4), at(5)), thunk(at(3), at(4)), routine(at(1)), thunk(at(20), at(20)), thunk(at(21), at(22)),
		thunk(at(22), at(23)), thunk(at(23), at(21)), thunk(at(24), at(23)), thunk(at(25), at(99)), thunk(at(26), at(25)), thunk(at(7), at(1)), thunk(at(27), at(20)),
	}}
	for n, want := range map[int]int{
		9: 9, 5: 9, 4: 9, 3: 9, 1: 1, 7: 1, 20: -1, 21: -1, 22: -1, 23: -1, 24: -1, 25: -1, 26: -1, 27: -1, 99: -1, 0: -1,
	} {
		p, ok := scan.Resolve(l, at(n))
		if ok != (want >= 0) || ok && p != at(want) || !ok && p != (api.Place{}) {
			t.Errorf("%d: %v, %v, want %d", n, p, ok, want)
		}
	}
	for _, p := range []api.Place{place(1, 0x1009), place(0, 9), place(-3, 0x1009), place(64, 0x1001)} {
		if q, ok := scan.Resolve(l, p); ok || q != (api.Place{}) {
			t.Errorf("%s is no entry: %v, %v", show(p), q, ok)
		}
	}
	if p, ok := scan.Resolve(api.Listing{}, api.Place{}); ok || p != (api.Place{}) {
		t.Errorf("no routines: %v, %v", p, ok)
	}
	// An entry need not exist, also the zero place.
	l = api.Listing{Routines: []api.Routine{routine(api.Place{}), thunk(place(-1, 7), api.Place{}), routine(place(99, 0xffff))}}
	for p, want := range map[api.Place]api.Place{{}: {}, place(-1, 7): {}, place(99, 0xffff): place(99, 0xffff)} {
		if q, ok := scan.Resolve(l, p); !ok || q != want {
			t.Errorf("%s: %v, %v", show(p), q, ok)
		}
	}
}

func TestP5_6_ResolveOfAScan(t *testing.T) {
	jmpf := func(bank, to int) string {
		return encoded(api.Ins{Op: api.JMPF, Bank: bank, Imm: uint16(to)})
	}
	i := imageWith(map[int]string{0: jmpf(1, 0x1020), 4: jmpf(0, 8), 8: jmpf(0, 4), 12: jmpf(7, 0x1000)}, map[int]string{0x20: jmpf(0, 0x30)})
	i = changed(i, 0, 0x30, ret)
	l := scan.Scan(i, []api.Place{place(0, 4), place(0, 12)})
	for p, want := range map[api.Place]string{
		place(0, 0): "0:30 true", place(1, 0x1020): "0:30 true", place(0, 0x30): "0:30 true", place(0, 4): "0:0 false", place(0, 8): "0:0 false",
		place(0, 12): "7:1000 true", place(7, 0x1000): "7:1000 true", place(0, 0x1030): "0:0 false", place(0, 0x31): "0:0 false",
	} {
		q, ok := scan.Resolve(l, p)
		if got := show(q) + map[bool]string{true: " true", false: " false"}[ok]; got != want {
			t.Errorf("%s: %s, want %s", show(p), got, want)
		}
	}
}
