package scan_test

import (
	"fmt"
	"strings"
	"testing"

	"vellum/api"
	"vellum/isa"
	"vellum/scan"
)

const (
	ret = "\x01"
	hlt = "\x02"
)

func TestP5_1_Examples(t *testing.T) {
	example := func(code string) api.Image { return changed(zeroImage(1), 0, 0, code) }
	l := checkRoutines(t, "JCC, HLT, MOV, HLT", example("\x60\x01\x02\x30\x00\x07\x02"), nil, "0:0: 0:0 0:2 0:3 0:6;;")
	checkClasses(t, "JCC, HLT, MOV, HLT", l, 0, 0, 1, 2, 1, 1, 2, 2, 1, 0)
	if item := l.Routines[0].Code[2]; item.Ins != (api.Ins{Op: api.MOV + 0x10, Imm: 7, Size: 3}) {
		t.Errorf("MOV: %+v", item)
	}
	checkRoutines(t, "JMP", example("\x80\x01\x30\x02\x00\x02"), nil, "0:0: 0:0 0:3;;")
	checkRoutines(t, "CALL, HLT, RET", example("\x82\x01\x00\x02\x01"), nil, "0:0: 0:0 0:3; 0:4;", "0:4: 0:4;;")
	checkRoutines(t, "OUT 0", example("\x91\x00\x00\x02"), nil, "0:0: 0:0 0:3;; 42@0:0")
	checkRoutines(t, "ff", example("\xff"), nil, "0:0:;; 11@0:0")
}

func TestP5_1_FirstEntries(t *testing.T) {
	i := zeroImage(2)
	i.Banks[0] = strings.Repeat(hlt, api.BankSize)
	i.Entry, i.Vector = 0x20, 0x10
	checkRoutines(t, "Vector before Entry", i, nil, "0:10: 0:10;;", "0:20: 0:20;;")
	i.Vector = 0x20
	checkRoutines(t, "Vector is Entry", i, nil, "0:20: 0:20;;")
	i.Vector = 0
	checkRoutines(t, "no Vector", i, nil, "0:20: 0:20;;")
	i.Entry, i.Vector = 0, 0x10
	checkRoutines(t, "Entry 0", i, nil, "0:0: 0:0;;", "0:10: 0:10;;")
	i.Entry, i.Vector = 0x1005, 0x1234
	checkRoutines(t, "Entry and Vector in the window", i, nil, "0:1005: 0:1005;;", "0:1234: 0:1234;;")
	i.Entry, i.Vector = 0x2000, 0xffff
	checkRoutines(t, "Entry and Vector outside of code", i, nil, "0:2000:;; 45@0:2000", "0:ffff:;; 45@0:ffff")
	checkRoutines(t, "no banks", api.Image{Vector: 1}, nil, "0:0:;; 45@0:0", "0:1:;; 45@0:1")
}

func TestP5_1_MoreEntries(t *testing.T) {
	i := imageWith(map[int]string{0: hlt, 9: hlt}, map[int]string{9: hlt})
	more := []api.Place{place(1, 0x1009), place(0, 0x1009), place(0, 9), place(1, 0x1009), place(0, 0)}
	checkRoutines(t, "in another order, and twice", i, more, "0:0: 0:0;;", "0:9: 0:9;;", "0:1009: 0:1009;;", "1:1009: 1:1009;;")
	more = []api.Place{place(2, 0x1000), place(64, 0x1000), place(-1, 0), place(-7, 9), place(1, 9), place(1<<40, 0x1000), place(0, 0x2000), place(1, 0x2000)}
	checkRoutines(t, "places that do not exist", i, more,
		"-7:9:;; 45@-7:9", "-1:0:;; 45@-1:0", "0:0: 0:0;;", "0:2000:;; 45@0:2000", "1:9:;; 45@1:9", "1:2000:;; 45@1:2000",
		"2:1000:;; 45@2:1000", "64:1000:;; 45@64:1000", "1099511627776:1000:;; 45@1099511627776:1000")
}

func TestP5_1_CalleesAndTargetsAreEntries(t *testing.T) {
	call := func(from, to int) api.Ins { return api.Ins{Op: api.CALL, Imm: uint16(to - from - 3)} }
	callf := func(bank, to int) api.Ins { return api.Ins{Op: api.CALLF, Bank: bank, Imm: uint16(to)} }
	jmpf := func(bank, to int) string {
		return encoded(api.Ins{Op: api.JMPF, Bank: bank, Imm: uint16(to)})
	}
	i := imageWith(
		map[int]string{
			// The second call, which is in order before the first one, is repeated.
			0:    encoded(call(0, 0x200), callf(2, 0x1000), call(7, 0x100), call(10, 0x100), call(13, 0x2000)) + hlt,
			0x50: jmpf(3, 0x60), 0x60: jmpf(1, 0x1070), 0x100: encoded(callf(0, 0x50)) + ret, 0x200: encoded(call(0x200, 0x200)) + ret,
		},
		map[int]string{0x70: ret},
		map[int]string{0: encoded(call(0x1000, 0x1010), callf(1, 0x1080)) + ret, 0x10: ret})
	checkRoutines(t, "calls", i, nil,
		"0:0: 0:0 0:3 0:7 0:a 0:d 0:10; 0:100 0:200 0:2000 2:1000;",
		"0:50 true>0:60: 0:50;;",
		"0:60 true>1:1070: 0:60;;",
		"0:100: 0:100 0:104; 0:50;",
		"0:200: 0:200 0:203; 0:200;",
		"0:2000:;; 45@0:2000",
		"1:1070: 1:1070;;",
		"1:1080:;; 11@1:1080",
		"2:1000: 2:1000 2:1003 2:1007; 1:1080 2:1010;",
		"2:1010: 2:1010;;")
}

func TestP5_1_Thunks(t *testing.T) {
	jmpf := func(bank, to int) string {
		return encoded(api.Ins{Op: api.JMPF, Bank: bank, Imm: uint16(to)})
	}
	checkRoutines(t, "to itself", imageWith(map[int]string{0: jmpf(0, 0)}), nil, "0:0 true>0:0: 0:0;;")
	checkRoutines(t, "in a circle", imageWith(map[int]string{0: jmpf(1, 0x1004)}, map[int]string{4: jmpf(63, 0)}), nil,
		"0:0 true>1:1004: 0:0;;", "1:1004 true>0:0: 1:1004;;")
	checkRoutines(t, "to no code", imageWith(map[int]string{0: jmpf(5, 0x1000)}), nil,
		"0:0 true>5:1000: 0:0;;", "5:1000:;; 45@5:1000")
	checkRoutines(t, "to an address outside of code", imageWith(map[int]string{0: jmpf(5, 0x3000)}), nil,
		"0:0 true>0:3000: 0:0;;", "0:3000:;; 45@0:3000")
	i := imageWith(map[int]string{0: "\x00" + jmpf(1, 0x1000)}, map[int]string{0: ret})
	checkRoutines(t, "JMPF that is not the first instruction", i, nil, "0:0: 0:0 0:1 1:1000;;")
	checkRoutines(t, "JMPF that is an entry, too", i, []api.Place{place(0, 1)},
		"0:0: 0:0 0:1 1:1000;;", "0:1 true>1:1000: 0:1;;", "1:1000: 1:1000;;")
	i = imageWith(map[int]string{0: "\x00" + jmpf(1, 0x1000)}, map[int]string{0: jmpf(0, 0x300)})
	checkRoutines(t, "JMPF to JMPF", i, nil, "0:0: 0:0 0:1 1:1000;; 11@0:300")
	checkRoutines(t, "JMPF that is cut off", changed(zeroImage(1), 0, 0x0ffd, "\x83\x00\x00"), []api.Place{place(0, 0x0ffd)},
		"0:0:"+showRange(0, 0, 0x0ffc)+";; 45@0:ffd", "0:ffd:;; 45@0:ffd")
	checkRoutines(t, "JMPF to a bank that cannot be encoded", imageWith(map[int]string{0: "\x83\x40\x00\x00"}), nil, "0:0:;; 11@0:0")
}

// showRange formats the places from a first to a last one.
func showRange(bank, first, last int) string {
	var s strings.Builder
	for addr := first; addr <= last; addr++ {
		fmt.Fprintf(&s, " %d:%x", bank, addr)
	}
	return s.String()
}

func TestP5_1_InstructionAtAPlace(t *testing.T) {
	long := encoded(api.Ins{Op: api.STI, Imm: 1, Aux: 2})
	for what, x := range map[string]struct {
		image api.Image
		entry int
		want  string
	}{
		"last bytes of bank 0":            {imageWith(map[int]string{0x0ffd: "\x90\x00\x00"}), 0x0ffd, "0:ffd: 0:ffd;; 45@0:ffd"},
		"over the end of bank 0":          {changed(zeroImage(1), 0, 0x0ffe, "\x90\x00"), 0x0ffe, "0:ffe:;; 45@0:ffe"},
		"far over the end of bank 0":      {changed(zeroImage(1), 0, 0x0fff, "\x96"), 0x0fff, "0:fff:;; 45@0:fff"},
		"last bytes of the window":        {imageWith(map[int]string{0x0ffa: long}), 0x1ffa, "0:1ffa: 0:1ffa;; 45@0:1ffa"},
		"over the end of the window":      {imageWith(map[int]string{0x0ffb: long}), 0x1ffb, "0:1ffb:;; 45@0:1ffb"},
		"last bytes of a short bank":      {api.Image{Banks: []string{"\x02\x90\x00\x00"}}, 1, "0:1: 0:1;; 45@0:4"},
		"over the end of a short bank":    {api.Image{Banks: []string{"\x02\x90\x00"}}, 1, "0:1:;; 45@0:1"},
		"the first byte exists only":      {api.Image{Banks: []string{"\x02\x90"}}, 1, "0:1:;; 45@0:1"},
		"behind a short bank":             {api.Image{Banks: []string{"\x02\x90"}}, 2, "0:2:;; 45@0:2"},
		"empty bank":                      {api.Image{Banks: []string{""}}, 0, "0:0:;; 45@0:0"},
		"long bank":                       {api.Image{Banks: []string{strings.Repeat(hlt, 4095) + "\x90\x00\x00\x02"}}, 0x0fff, "0:fff:;; 45@0:fff"},
		"a byte that is no operation":     {imageWith(map[int]string{0: "\x06"}), 0, "0:0:;; 11@0:0"},
		"the last byte is no operation":   {imageWith(map[int]string{}), 0x0fff, "0:fff:;; 11@0:fff"},
		"a register that does not exist":  {imageWith(map[int]string{0: "\x10\x08"}), 0, "0:0:;; 11@0:0"},
		"a table without entries":         {imageWith(map[int]string{0: "\x85\x00\x00\x00\x00\x00\x00"}), 0, "0:0:;; 11@0:0"},
		"not decoded over the end":        {changed(zeroImage(1), 0, 0x0ffe, "\x50\x88"), 0x0ffe, "0:ffe:;; 45@0:ffe"},
		"outside of the code, in no bank": {zeroImage(1), 0x2000, "0:2000:;; 45@0:2000"},
	} {
		x.image.Entry = uint16(x.entry)
		checkRoutines(t, what, x.image, nil, x.want)
	}
}

// landing is an image of two banks in which most jumps lead to HLT.
func landing(bank, off int, code string) api.Image {
	full := strings.Repeat(hlt, api.BankSize)
	return changed(api.Image{Banks: []string{full, full}, Entry: 0x50}, bank, off, code)
}

// checkFrom checks the routines that one more entry adds, which are separated by |. The entry of the image is not among them.
func checkFrom(t *testing.T, what string, i api.Image, entry api.Place, want string) api.Listing {
	t.Helper()
	var others []string
	l := scan.Scan(i, []api.Place{entry})
	for _, r := range l.Routines {
		if r.Entry != place(0, int(i.Entry)) {
			others = append(others, showRoutine(r))
		}
	}
	if got := strings.Join(others, "|"); got != want {
		t.Errorf("%s:\n%q, want\n%q", what, got, want)
	}
	checkEqual(t, what, l, modelOf(i).scan([]api.Place{entry}))
	return l
}

func TestP5_1_Successors(t *testing.T) {
	for what, x := range map[string]struct{ code, high, low string }{ // code is at 1:1100, and then at 0:0100
		"NOP":                     {"\x00", "1:1100: 1:1100 1:1101;;", "0:100: 0:100 0:101;;"},
		"RET":                     {"\x01", "1:1100: 1:1100;;", "0:100: 0:100;;"},
		"HLT":                     {"\x02", "1:1100: 1:1100;;", "0:100: 0:100;;"},
		"IRET":                    {"\x03", "1:1100: 1:1100;;", "0:100: 0:100;;"},
		"POLL":                    {"\x04", "1:1100: 1:1100 1:1101;;", "0:100: 0:100 0:101;;"},
		"STI":                     {"\x96\x00\x00\x00\x00\x00", "1:1100: 1:1100 1:1106;;", "0:100: 0:100 0:106;;"},
		"JCC, short":              {"\x6d\xfe", "1:1100: 1:1100 1:1102;;", "0:100: 0:100 0:102;;"},
		"JCC, short, backwards":   {"\x60\x80", "1:1100: 1:1082 1:1100 1:1102;;", "0:100: 0:82 0:100 0:102;;"},
		"JCC, long":               {"\x70\x00\x02", "1:1100: 1:1100 1:1103 1:1303;;", "0:100: 0:100 0:103 0:303;;"},
		"JCC, long, back to 0":    {"\x7d\xfd\xee", "1:1100: 0:0 1:1100 1:1103;;", "0:100: 0:100 0:103;; 45@0:f000"},
		"JCC, forward to window":  {"\x70\xfd\x0e", "1:1100: 1:1100 1:1103;; 45@0:2000", "0:100: 0:100 0:103;; 42@0:100"},
		"JMP":                     {"\x80\x10", "1:1100: 1:1100 1:1112;;", "0:100: 0:100 0:112;;"},
		"JMPW":                    {"\x81\xfd\x0e", "1:1100: 1:1100;; 45@0:2000", "0:100: 0:100;; 42@0:100"},
		"JMPW to the last byte":   {"\x81\xfc\x0e", "1:1100: 1:1100 1:1fff;;", "0:100: 0:100 0:fff;;"},
		"JMPI":                    {"\x86\x00\x00\x01", "1:1100: 1:1100;; 41@1:1100", "0:100: 0:100;; 41@0:100"},
		"IN from port 0":          {"\x90\x00\x00", "1:1100: 1:1100 1:1103;;", "0:100: 0:100 0:103;;"},
		"OUT to port 0":           {"\x91\x03\x00", "1:1100: 1:1100 1:1103;; 42@1:1100", "0:100: 0:100 0:103;; 42@0:100"},
		"OUT to port 1":           {"\x91\x00\x01", "1:1100: 1:1100 1:1103;;", "0:100: 0:100 0:103;;"},
		"CALL of the window":      {"\x82\xfc\x0e", "1:1100: 1:1100 1:1103; 1:1fff;|1:1fff: 1:1fff;;", "0:100: 0:100 0:103; 0:fff;|0:fff: 0:fff;;"},
		"CALL of what is unknown": {"\x82\xfd\x0e", "0:2000:;; 45@0:2000|1:1100: 1:1100 1:1103; 0:2000;", "0:100: 0:100 0:103;; 42@0:100"},
		"CALLF of a low address":  {"\x84\x01\x20\x00", "0:20: 0:20;;|1:1100: 1:1100 1:1104; 0:20;", "0:20: 0:20;;|0:100: 0:100 0:104; 0:20;"},
		"CALLF of the window":     {"\x84\x01\x20\x10", "1:1020: 1:1020;;|1:1100: 1:1100 1:1104; 1:1020;", "0:100: 0:100 0:104; 1:1020;|1:1020: 1:1020;;"},
		"CALLF of a missing bank": {"\x84\x02\x20\x10", "1:1100: 1:1100 1:1104; 2:1020;|2:1020:;; 45@2:1020", "0:100: 0:100 0:104; 2:1020;|2:1020:;; 45@2:1020"},
		"not an instruction":      {"\xff", "1:1100:;; 11@1:1100", "0:100:;; 11@0:100"},
	} {
		checkFrom(t, what, landing(1, 0x100, x.code), place(1, 0x1100), x.high)
		checkFrom(t, what+" below the window", landing(0, 0x100, x.code), place(0, 0x100), x.low)
	}
}

func TestP5_1_EndsOfParts(t *testing.T) {
	for what, x := range map[string]struct {
		image api.Image
		entry int
		want  string
	}{
		"over the end of bank 0":      {landing(0, 0x0fff, "\x00"), 0x0fff, "0:fff: 0:fff;; 45@0:fff"},
		"over the end of the window":  {landing(0, 0x0fff, "\x00"), 0x1fff, "0:1fff: 0:1fff;; 45@0:1fff"},
		"to the end":                  {landing(0, 0x0ffe, "\x00"), 0x0ffe, "0:ffe: 0:ffe 0:fff;;"},
		"OUT 0 at the end":            {landing(0, 0x0ffd, "\x91\x00\x00"), 0x0ffd, "0:ffd: 0:ffd;; 42@0:ffd 45@0:ffd"},
		"CALL at the end":             {landing(0, 0x0ffd, "\x82\x00\x00"), 0x0ffd, "0:ffd: 0:ffd;; 42@0:ffd 45@0:ffd"},
		"JCC at the end":              {landing(0, 0x0ffd, "\x70\x00\x00"), 0x0ffd, "0:ffd: 0:ffd;; 42@0:ffd 45@0:ffd"},
		"JCC at the end, backwards":   {landing(0, 0x0ffd, "\x70\x00\xf0"), 0x1ffd, "0:1ffd: 0:1000 0:1ffd;; 45@0:1ffd"},
		"JMP behind the end":          {landing(0, 0x0ffe, "\x80\x00"), 0x0ffe, "0:ffe: 0:ffe;; 42@0:ffe"},
		"RET at the end":              {landing(0, 0x0fff, "\x01"), 0x0fff, "0:fff: 0:fff;;"},
		"JMPW to the end of memory":   {landing(0, 0, "\x81\xfc\xff"), 0, "0:0: 0:0;; 45@0:ffff"},
		"JMPW backwards":              {landing(0, 0x0ff0, "\x81\x0d\xf0"), 0x0ff0, "0:ff0: 0:0 0:ff0;;"},
		"JMPW forwards and around":    {landing(0, 0x0ff0, "\x81\x1d\xf0"), 0x1ff0, "0:1ff0: 0:1010 0:1ff0;;"},
		"a short bank goes no longer": {api.Image{Banks: []string{"\x00"}}, 0, "0:0: 0:0;; 45@0:1"},
	} {
		x.image.Entry = uint16(x.entry)
		checkRoutines(t, what, x.image, nil, x.want)
	}
}

// tableImage has a JTAB with a limit and a table at a place of bank 0 or 1, and further bytes at an offset of the bank.
func tableImage(at api.Place, limit, table, off int, bytes string) api.Image {
	code := encoded(api.Ins{Op: api.JTAB, Bank: limit, Imm: 0x20, Aux: uint16(table)})
	return changed(landing(at.Bank, int(at.Addr)%0x1000, code), at.Bank, off, bytes)
}

func TestP5_1_JumpTables(t *testing.T) {
	low, high := place(0, 0x100), place(1, 0x1100)
	for what, x := range map[string]struct {
		at                api.Place
		limit, table, off int
		bytes             string
		want              string
	}{
		"one entry":                       {low, 1, 0x200, 0x200, "\x08\x00\x09\x00", "0:100: 0:8 0:100 0:127;;"},
		"two entries":                     {low, 2, 0x200, 0x200, "\x08\x00\x09\x00\x0a\x00", "0:100: 0:8 0:9 0:100 0:127;;"},
		"twice the same":                  {low, 2, 0x200, 0x200, "\x08\x00\x08\x00", "0:100: 0:8 0:100 0:127;;"},
		"high bytes":                      {low, 2, 0x201, 0x201, "\x08\x03\xff\x0f", "0:100: 0:100 0:127 0:308 0:fff;;"},
		"to the window":                   {low, 3, 0x200, 0x200, "\x00\x10\x09\x00\xff\x1f", "0:100: 0:9 0:100 0:127;; 42@0:100"},
		"to the window, from it":          {high, 3, 0x1200, 0x200, "\x00\x10\x09\x00\xff\x1f", "1:1100: 0:9 1:1000 1:1100 1:1127 1:1fff;;"},
		"to no code":                      {high, 2, 0x1200, 0x200, "\x00\x20\xff\xff", "1:1100: 1:1100 1:1127;; 45@0:2000 45@0:ffff"},
		"in the window":                   {low, 1, 0x1200, 0x200, "", "0:100: 0:100 0:127;; 42@0:100"},
		"in bank 0, from the window":      {high, 1, 0x0200, 0x200, "\x01\x01", "1:1100: 0:202 1:1100 1:1127;;"},
		"outside of the code":             {low, 1, 0x2000, 0, "", "0:100: 0:100 0:127;; 41@0:100"},
		"partly in the window":            {low, 2, 0x0ffd, 0xffd, "\x05\x00", "0:100: 0:5 0:100 0:127;; 42@0:100"},
		"partly outside of the code":      {high, 2, 0x1ffd, 0xffd, "\x05\x00", "1:1100: 0:5 1:1100 1:1127;; 41@1:1100"},
		"unknown and outside of the code": {low, 1, 0x1fff, 0, "", "0:100: 0:100 0:127;; 42@0:100"},
		"outside of the code and in it":   {high, 1, 0xffff, 0, "", "1:1100: 1:1100 1:1127;; 41@1:1100"},
		"around":                          {low, 2, 0xfffe, 0, "\x33\x00", "0:100: 0:33 0:100 0:127;; 41@0:100"},
		"both issues":                     {low, 2, 0x1ffe, 0, "", "0:100: 0:100 0:127;; 41@0:100 42@0:100"},
		"to the jump itself":              {low, 1, 0x200, 0x200, "\x00\x01", "0:100: 0:100 0:127;;"},
		"in the jump itself":              {low, 2, 0x103, 0, "", "0:100: 0:20 0:100 0:103 0:105 0:127;;"},
	} {
		checkFrom(t, what, tableImage(x.at, x.limit, x.table, x.off, x.bytes), x.at, x.want)
	}
	// The second entry has a byte in each of the banks.
	i := changed(tableImage(high, 3, 0x0ffd, 0, "\x03\x04\x00"), 0, 0x0ffd, "\x02\x03\x00")
	checkFrom(t, "from bank 0 to the window", i, high, "1:1100: 0:4 0:300 0:302 1:1100 1:1127;;")
}

func TestP5_1_LimitOfAJumpTable(t *testing.T) {
	var table strings.Builder
	for k := range 256 {
		table.WriteString(string([]byte{byte(k), 0x0f}))
	}
	at := place(0, 0x100)
	i := tableImage(at, 255, 0x200, 0x200, table.String())
	checkFrom(t, "255 entries", i, at, "0:100: 0:100 0:127"+showRange(0, 0xf00, 0xffe)+";;")
}

func TestP5_1_DefaultOfAJumpTable(t *testing.T) {
	from := func(at, imm int) api.Image {
		code := encoded(api.Ins{Op: api.JTAB, Bank: 1, Imm: uint16(imm), Aux: 0x20})
		return changed(landing(0, at, code), 0, 0x20, "\x30\x00")
	}
	checkFrom(t, "the last byte", from(0, 0x0ff8), place(0, 0), "0:0: 0:0 0:30 0:fff;;")
	checkFrom(t, "unknown", from(0, 0x0ff9), place(0, 0), "0:0: 0:0 0:30;; 42@0:0")
	checkFrom(t, "no code", from(0, 0x2000), place(0, 0), "0:0: 0:0 0:30;; 45@0:2007")
	checkFrom(t, "not behind the jump", from(0x0ff9, 0x0200), place(0, 0x0ff9), "0:ff9: 0:30 0:ff9;; 42@0:ff9")
}

func TestP5_1_IssuesAreInOrder(t *testing.T) {
	i := landing(0, 0, "\x60\x50\x71\x00\x20\x91\x00\x00\x80\x06")
	i = changed(changed(i, 0, 0x10, "\x91\x00\x00\x86\x00\x00\x00"), 0, 0x52, "\xff")
	checkFrom(t, "several issues", i, place(0, 0), "0:0: 0:0 0:2 0:5 0:8 0:10 0:13;; 42@0:5 42@0:10 41@0:13 11@0:52 45@0:2005")
	i = landing(0, 0, "\x60\x02\x80\x00\x91\x00\x00")
	checkFrom(t, "reached twice", i, place(0, 0), "0:0: 0:0 0:2 0:4 0:7;; 42@0:4")
	i = changed(landing(0, 0, "\x60\x0e\x80\x0c"), 0, 0x10, "\xff")
	checkFrom(t, "reached twice, no instruction", i, place(0, 0), "0:0: 0:0 0:2;; 11@0:10")
}

func TestP5_1_RoutinesShareCode(t *testing.T) {
	i := landing(0, 0, "\x00\x91\x00\x00\x82\x05\x00\x80\x03")
	// The routine at 0x0c goes on in the first one, and calls the first one, too.
	i = changed(i, 0, 0x0c, "\x82\xf1\xff\x81\xef\xff")
	checkFrom(t, "a common end", i, place(0, 0),
		"0:0: 0:0 0:1 0:4 0:7 0:c 0:f; 0:0 0:c; 42@0:1|0:c: 0:1 0:4 0:7 0:c 0:f; 0:0 0:c; 42@0:1")
}

func TestP5_1_CodeHasTheInstructions(t *testing.T) {
	r := random(1)
	for range 300 {
		i := r.image()
		for _, routine := range scan.Scan(i, r.more()).Routines {
			for _, item := range routine.Code {
				off := int(item.At.Addr) % 0x1000
				code := i.Banks[item.At.Bank][off : off+item.Ins.Size]
				if want, err := isa.Decode(code); err != api.OK || item.Ins != want {
					t.Fatalf("%s: %+v, want %+v", show(item.At), item.Ins, want)
				}
			}
		}
	}
}
