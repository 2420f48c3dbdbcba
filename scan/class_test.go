package scan_test

import (
	"strings"
	"testing"

	"vellum/api"
	"vellum/scan"
)

func TestP5_3_Overlaps(t *testing.T) {
	i := changed(hltImage(1), 0, 0, "\x60\xff\x02")
	l := checkRoutines(t, "into the middle of an instruction", changed(i, 0, 1, "\xff"), nil, "0:0: 0:0 0:2;; 11@0:1")
	checkIssues(t, "no instruction there", l, "")
	i = changed(i, 0, 0, "\x30\x00\x02\x60\xfd")
	l = checkRoutines(t, "into the last byte", i, nil, "0:0: 0:0 0:2 0:3 0:5;;")
	checkIssues(t, "into the last byte", l, " 40@0:0 40@0:2")
	checkClasses(t, "into the last byte", l, 0, 0, 1, 2, 3, 1, 2, 1, 0)
	i = changed(hltImage(1), 0, 0, "\x40\x00\x20\x01\x60\xfc\x02")
	l = checkRoutines(t, "up to the end", i, nil, "0:0: 0:0 0:2 0:4 0:6;;")
	checkIssues(t, "up to the end", l, " 40@0:0 40@0:2")
	checkClasses(t, "up to the end", l, 0, 0, 1, 2, 3, 3, 1, 2, 1)
	i = changed(hltImage(1), 0, 0, "\x60\x01\x02\x02")
	checkIssues(t, "neighbours", checkRoutines(t, "neighbours", i, nil, "0:0: 0:0 0:2 0:3;;"), "")
}

func TestP5_3_OverlapsOfRoutines(t *testing.T) {
	i := changed(hltImage(2), 0, 0x10, "\x40\x00\x60\x00\x00")
	i.Entry = 0x10
	l := checkRoutines(t, "two routines", i, []api.Place{place(0, 0x12)}, "0:10: 0:10 0:14 0:15;;", "0:12: 0:12 0:14 0:15;;")
	checkIssues(t, "two routines", l, " 40@0:10 40@0:12")
	i = changed(i, 0, 0x0e, encoded(api.Ins{Op: api.JMPF, Imm: 0x0050}))
	i.Entry = 0x0d
	l = checkRoutines(t, "a thunk and a routine", i, []api.Place{place(0, 0x0e), place(0, 0x11)},
		"0:d: 0:d;;", "0:e true>0:50: 0:e;;", "0:11: 0:11 0:12 0:14 0:15;;", "0:50: 0:50;;")
	checkIssues(t, "a thunk and a routine", l, " 40@0:e 40@0:11")
	// One instruction contains bytes of two others, which do not overlap.
	i = changed(hltImage(1), 0, 0, "\x60\x01\x40\x02\x00\x02\x02")
	l = checkRoutines(t, "three", i, []api.Place{place(0, 4), place(0, 5)}, "0:0: 0:0 0:2 0:3 0:6;;", "0:4: 0:4 0:5;;", "0:5: 0:5;;")
	checkIssues(t, "three", l, " 40@0:2 40@0:3 40@0:4 40@0:5")
	checkClasses(t, "three", l, 0, 0, 1, 2, 1, 3, 3, 3, 1)
}

func TestP5_3_SameByteAtTwoPlaces(t *testing.T) {
	i := changed(hltImage(2), 0, 0x20, "\x30\x00\x07\x02")
	i = changed(i, 1, 0x20, "\x30\x00\x07\x02")
	more := []api.Place{place(0, 0x20), place(1, 0x1020)}
	l := scan.Scan(i, more)
	checkEqual(t, "the same offsets of two banks", l, modelOf(i).scan(more))
	checkIssues(t, "the same offsets of two banks", l, "")
	more = append(more, place(0, 0x1020))
	l = scan.Scan(i, more)
	checkEqual(t, "bank 0 below and in the window", l, modelOf(i).scan(more))
	checkIssues(t, "bank 0 below and in the window", l, " 40@0:20 40@0:23 40@0:1020 40@0:1023")
	checkClasses(t, "bank 0 below and in the window", l, 0, 0x1f, 0, 3, 3, 3, 3, 0)
	checkClasses(t, "bank 0 below and in the window", l, 1, 0x1f, 0, 1, 2, 2, 1, 0)
	// The first byte at one place is another byte of the instruction at the other one.
	more = []api.Place{place(0, 0x20), place(0, 0x1022)}
	i = changed(i, 0, 0x22, "\x00")
	l = scan.Scan(i, more)
	checkEqual(t, "another byte in the window", l, modelOf(i).scan(more))
	checkIssues(t, "another byte in the window", l, " 40@0:20 40@0:23 40@0:1022 40@0:1023")
	checkClasses(t, "another byte in the window", l, 0, 0x20, 1, 2, 3, 3, 0)
}

func TestP5_4_SizesOfBanks(t *testing.T) {
	i := api.Image{Banks: []string{hlt, "", strings.Repeat("x", 5000), strings.Repeat("y", 140000)}}
	for len(i.Banks) < 70 {
		i.Banks = append(i.Banks, "abc")
	}
	i.Data = []api.Object{{Bank: 0, Addr: 0, Size: 9}, {Bank: 1, Addr: 0, Size: 1}, {Bank: 2, Addr: 0x0fff, Size: 3}, {Bank: 2, Addr: 4998, Size: 0xffff},
		{Bank: 3, Addr: 0xffff, Size: 0xffff}, {Bank: 69, Addr: 1, Size: 1}, {Bank: 70, Addr: 0, Size: 3}, {Bank: api.RamBank, Addr: 0, Size: 9}, {Bank: -9, Addr: 0, Size: 9}}
	l := scan.Scan(i, nil)
	checkEqual(t, "uneven banks", l, modelOf(i).scan(nil))
	checkClasses(t, "code over data", l, 0, 0, 1)
	checkClasses(t, "behind the code", l, 2, 0x0ffe, 0, 5, 5, 5, 0)
	checkClasses(t, "to the end", l, 2, 4997, 0, 5, 5)
	checkClasses(t, "the greatest address", l, 3, 0xfffe, 0, 5)
	checkClasses(t, "the greatest end", l, 3, 2*0xffff-1, 5, 0)
	checkClasses(t, "bank 69", l, 69, 0, 0, 5, 0)
	if l = scan.Scan(api.Image{Data: i.Data}, nil); len(l.Classes) != 0 {
		t.Errorf("no banks: %v", l.Classes)
	}
}

func TestP5_4_Objects(t *testing.T) {
	i := hltImage(2)
	for what, x := range map[string]struct {
		objects []api.Object
		want    string // of bank 1
	}{
		"none":            {nil, "0000000000"},
		"one":             {[]api.Object{{Bank: 1, Addr: 2, Size: 3}}, "0055500000"},
		"without bytes":   {[]api.Object{{Bank: 1, Addr: 2, Size: 0}}, "0000000000"},
		"one byte":        {[]api.Object{{Bank: 1, Addr: 9, Size: 1}}, "0000000005"},
		"in another bank": {[]api.Object{{Bank: 0, Addr: 2, Size: 3}, {Bank: 2, Addr: 2, Size: 3}}, "0000000000"},
		"in RAM":          {[]api.Object{{Bank: api.RamBank, Addr: 2, Size: 3}}, "0000000000"},
		"in no order":     {[]api.Object{{Bank: 1, Addr: 7, Size: 2}, {Bank: 1, Addr: 1, Size: 1}}, "0500000550"},
		"in each other":   {[]api.Object{{Bank: 1, Addr: 1, Size: 7}, {Bank: 1, Addr: 2, Size: 1}, {Bank: 1, Addr: 1, Size: 2}}, "0555555500"},
		"longer behind":   {[]api.Object{{Bank: 1, Addr: 1, Size: 2}, {Bank: 1, Addr: 1, Size: 4}}, "0555500000"},
		"one after one":   {[]api.Object{{Bank: 1, Addr: 1, Size: 2}, {Bank: 1, Addr: 3, Size: 2}, {Bank: 1, Addr: 4, Size: 3}}, "0555555000"},
		"an address":      {[]api.Object{{Bank: 1, Addr: 0x1002, Size: 3}}, "0000000000"},
	} {
		i.Data = x.objects
		l := scan.Scan(i, nil)
		checkEqual(t, what, l, modelOf(i).scan(nil))
		for off := range x.want {
			checkClasses(t, what, l, 1, off, x.want[off]-'0')
		}
	}
}

func TestP5_4_Tables(t *testing.T) {
	low, high := place(0, 0x100), place(1, 0x1100)
	scanned := func(what string, i api.Image, at api.Place) api.Listing {
		l := scan.Scan(i, []api.Place{at})
		checkEqual(t, what, l, modelOf(i).scan([]api.Place{at}))
		return l
	}
	i := tableImage(low, 2, 0x200, 0x200, "\x08\x00\xff\xff\x08\x00")
	l := scanned("two entries", i, low)
	checkClasses(t, "two entries", l, 0, 0x1ff, 0, 4, 4, 4, 4, 0)
	i.Data = []api.Object{{Bank: 0, Addr: 0x1ff, Size: 3}, {Bank: 0, Addr: 0x107, Size: 1}, {Bank: 0, Addr: 0x106, Size: 1}}
	l = scanned("over data", i, low)
	checkClasses(t, "over data", l, 0, 0x1fe, 0, 5, 4, 4, 4, 4, 0)
	checkClasses(t, "under code", l, 0, 0x106, 2, 5)

	i = tableImage(low, 2, 0x104, 0x108, "\x02")
	l = scanned("partly in the jump itself", i, low)
	checkClasses(t, "partly in the jump itself", l, 0, 0x0ff, 0, 1, 2, 2, 2, 2, 2, 2, 4, 0)
	i = tableImage(low, 1, 0x126, 0x126, "\x27\x01\x02")
	l = scanned("partly in other code", i, low)
	checkClasses(t, "partly in other code", l, 0, 0x125, 0, 4, 1, 0)
	i = tableImage(low, 2, 0x200, 0x200, "\x00\x02\x02\x02")
	l = scanned("a table that is executed", i, low)
	checkClasses(t, "a table that is executed", l, 0, 0x1ff, 0, 1, 1, 1, 4, 0)
	i = tableImage(low, 1, 0x200, 0x200, "\x00\x10")
	l = scanned("an entry that is not known", i, low)
	checkClasses(t, "an entry that is not known", l, 0, 0x1ff, 0, 4, 4, 0)

	l = scanned("partly in the window", tableImage(low, 2, 0x0ffd, 0xffd, "\x05\x00"), low)
	checkClasses(t, "partly in the window", l, 0, 0x0ffc, 0, 4, 4, 0)
	l = scanned("partly outside of the code", tableImage(high, 2, 0x1ffd, 0xffd, "\x05\x00"), high)
	checkClasses(t, "partly outside of the code", l, 1, 0x0ffc, 0, 4, 4, 0)
	l = scanned("outside of the code and in it", tableImage(high, 1, 0xffff, 0, "\x05\x00"), high)
	checkClasses(t, "outside of the code and in it", l, 0, 0, 0)
	i = tableImage(high, 3, 0x0ffd, 0, "\x00\x06\x00")
	l = scanned("from bank 0 to the window", changed(i, 0, 0x0ffd, "\x05\x00\x05"), high)
	checkClasses(t, "from bank 0 to the window", l, 0, 0x0ffc, 0, 4, 4, 4)
	checkClasses(t, "from bank 0 to the window", l, 1, 0, 4, 4, 4, 0)
}

func TestP5_4_TablesThatAreNotReached(t *testing.T) {
	i := changed(tableImage(place(0, 0x100), 2, 0x200, 0x200, "\x08\x00\x09\x00"), 0, 0x50, encoded(api.Ins{Op: api.JMPF, Imm: 0x40}))
	l := checkRoutines(t, "a thunk beside it", i, nil, "0:40: 0:40;;", "0:50 true>0:40: 0:50;;")
	checkClasses(t, "a thunk beside it", l, 0, 0x200, 0, 0, 0, 0)
	checkClasses(t, "a thunk beside it", l, 0, 0x4f, 0, 1, 2, 2, 2, 0)
}
