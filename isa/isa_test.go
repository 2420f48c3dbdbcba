package isa_test

import (
	"fmt"
	"math"
	"strings"
	"testing"

	"vellum/api"
	"vellum/isa"
)

// row is a row of the chapter's table. Its layout names what follows the operation: D, S, DS (registers), s (signed
// byte of Imm), u (byte of Imm), w (word Imm), x (word Aux), b (Bank to 63), l (Bank as a limit).
type row struct {
	first, last, size int
	layout            string
}

var chapterTable = []row{
	{0x00, 0x05, 1, ""},
	{0x10, 0x13, 2, "D"},
	{0x14, 0x15, 2, "u"},
	{0x20, 0x2e, 2, "DS"},
	{0x30, 0x3e, 3, "D s"},
	{0x40, 0x4e, 4, "D w"},
	{0x50, 0x53, 3, "DS s"},
	{0x58, 0x5b, 4, "DS w"},
	{0x54, 0x57, 4, "D w"},
	{0x60, 0x6d, 2, "s"},
	{0x70, 0x7d, 3, "w"},
	{0x80, 0x80, 2, "s"},
	{0x81, 0x82, 3, "w"},
	{0x83, 0x84, 4, "b w"},
	{0x85, 0x85, 7, "D l w x"},
	{0x86, 0x86, 4, "D w"},
	{0x90, 0x91, 3, "D u"},
	{0x92, 0x93, 5, "DS b w"},
	{0x96, 0x96, 6, "S w x"},
	{0xa0, 0xa1, 3, "D u"},
	{0xa2, 0xa3, 3, "D s"},
}

func rowOf(op int) (row, bool) {
	for _, r := range chapterTable {
		if r.first <= op && op <= r.last {
			return r, true
		}
	}
	return row{}, false
}

func (r row) has(fields ...string) bool {
	for _, part := range strings.Fields(r.layout) {
		for _, field := range fields {
			if part == field {
				return true
			}
		}
	}
	return false
}

func within(n, low, high int) bool { return n >= low && n <= high }

// highest is the highest value of a field that is used if used is true.
func highest(used bool, value int) int {
	if used {
		return value
	}
	return 0
}

// modelValid checks the conditions of P2.1 one by one.
func modelValid(i api.Ins) bool {
	r, known := rowOf(i.Op)
	if !known || i.Size != r.size {
		return false
	}
	if !within(i.D, 0, highest(r.has("D", "DS"), 7)) || !within(i.S, 0, highest(r.has("S", "DS"), 7)) {
		return false
	}
	if !within(int(i.Aux), 0, highest(r.has("x"), 0xffff)) {
		return false
	}
	imm := int(i.Imm)
	switch {
	case r.has("s") && !within(imm, 0, 127) && !within(imm, 65408, 65535):
		return false
	case r.has("u") && imm > 255:
		return false
	case !r.has("s", "u", "w") && imm != 0:
		return false
	}
	if r.has("l") {
		return within(i.Bank, 1, 255)
	}
	return within(i.Bank, 0, highest(r.has("b"), 63))
}

func modelBytes(i api.Ins) string {
	r, _ := rowOf(i.Op)
	code := []byte{byte(i.Op)}
	for _, part := range strings.Fields(r.layout) {
		code = append(code, map[string][]byte{
			"D":  {byte(i.D)},
			"S":  {byte(i.S)},
			"DS": {byte(i.D<<4 | i.S)},
			"s":  {byte(i.Imm % 256)},
			"u":  {byte(i.Imm % 256)},
			"w":  {byte(i.Imm % 256), byte(i.Imm / 256)},
			"x":  {byte(i.Aux % 256), byte(i.Aux / 256)},
			"b":  {byte(i.Bank)},
			"l":  {byte(i.Bank)},
		}[part]...)
	}
	return string(code)
}

var (
	wordCorners = []uint16{0, 1, 2, 0x7f, 0x80, 0xff, 0x100, 0x0fff, 0x1000, 0x1234, 0x1fff, 0x2000, 0x4000, 0x7fff, 0x8000, 0xfeff, 0xff00, 0xff7f, 0xff80, 0xff81, 0xfffe, 0xffff}
	auxCorners  = []uint16{0, 1, 0x140, 0x7fff, 0x8000, 0xfff0, 0xffff}
	allOps      = opsOfTable()
	otherOps    = []int{math.MinInt, -256, -1, 6, 0x0f, 0x16, 0x1f, 0x2f, 0x3f, 0x4f, 0x5c, 0x5f, 0x6e, 0x6f, 0x7e, 0x7f, 0x87, 0x8f, 0x94, 0x95, 0x97, 0x9f, 0xa4, 0xff, 0x100, 0x101, 0x120, 0x180, 1<<32 + 1, math.MaxInt}
	places      = []api.Place{{}, {Addr: 0x0ffd}, {Addr: 0x0fff}, {Bank: 1, Addr: 0x0800}, {Addr: 0x1000}, {Bank: 2, Addr: 0x1000}, {Bank: 63, Addr: 0x1ffe}, {Bank: 9, Addr: 0x1fff}, {Bank: 9, Addr: 0x2000}, {Addr: 0x4000}, {Bank: -5, Addr: 0x1800}, {Bank: math.MaxInt, Addr: 0x1001}, {Bank: math.MinInt, Addr: 0xffff}}
)

func opsOfTable() []int {
	var ops []int
	for _, r := range chapterTable {
		for op := r.first; op <= r.last; op++ {
			ops = append(ops, op)
		}
	}
	return ops
}

// used returns the values to try for a field: only 0 if the format does not have it.
func used[T any](has bool, values []T) []T {
	if has {
		return values
	}
	return make([]T, 1)
}

// validOnes calls visit with valid instructions of an operation: with all registers, and corners of the other fields.
func validOnes(op int, visit func(api.Ins)) {
	r, _ := rowOf(op)
	registers := []int{0, 1, 2, 3, 4, 5, 6, 7}
	for _, bank := range used(r.has("b", "l"), []int{0, 1, 9, 63, 64, 255}) {
		for _, imm := range used(r.has("s", "u", "w"), wordCorners) {
			i := api.Ins{Op: op, Imm: imm, Bank: bank, Size: r.size}
			if !modelValid(i) {
				continue
			}
			for _, i.D = range used(r.has("D", "DS"), registers) {
				for _, i.S = range used(r.has("S", "DS"), registers) {
					for _, i.Aux = range used(r.has("x"), auxCorners) {
						visit(i)
					}
				}
			}
		}
	}
}

// anyOnes calls visit with instructions of an operation whose fields are corners, in range or not.
func anyOnes(op, size int, visit func(api.Ins)) {
	registers := []int{math.MinInt, -256, -16, -1, 0, 1, 7, 8, 16, 256, 1 << 60}
	banks := []int{math.MinInt, -256, -1, 0, 1, 63, 64, 255, 256, 1<<32 + 1, math.MaxInt}
	for _, d := range registers {
		for _, s := range registers {
			for _, bank := range banks {
				for _, imm := range []uint16{0, 127, 128, 255, 256, 0xff7f, 0xff80} {
					for _, aux := range []uint16{0, 0x8000} {
						visit(api.Ins{Op: op, D: d, S: s, Imm: imm, Aux: aux, Bank: bank, Size: size})
					}
				}
			}
		}
	}
}

func TestP2_1_Size(t *testing.T) {
	known := 0
	for first := range 256 {
		r, isKnown := rowOf(first)
		if isKnown {
			known++
		}
		if got := isa.Size(byte(first)); got != r.size {
			t.Errorf("Size(%#x) is %d; want %d", first, got, r.size)
		}
	}
	if known != 113 || len(allOps) != known {
		t.Errorf("the test's table has %d operations", known)
	}
}

func TestP2_1_ValidInRange(t *testing.T) {
	for _, op := range allOps {
		seen := 0
		validOnes(op, func(i api.Ins) {
			seen++
			if !isa.Valid(i) {
				t.Fatalf("%+v is not valid", i)
			}
		})
		if seen == 0 {
			t.Errorf("no instruction of operation %#x was tried", op)
		}
	}
}

func TestP2_1_ValidOutOfRange(t *testing.T) {
	for _, op := range allOps {
		r, _ := rowOf(op)
		anyOnes(op, r.size, func(i api.Ins) {
			if got, want := isa.Valid(i), modelValid(i); got != want {
				t.Fatalf("Valid(%+v) is %v; want %v", i, got, want)
			}
		})
	}
}

func TestP2_1_ValidWantsTheSize(t *testing.T) {
	for _, op := range allOps {
		validOnes(op, func(i api.Ins) {
			for _, size := range []int{0, -1, i.Size - 1, i.Size + 1, i.Size + 256, math.MinInt, math.MaxInt} {
				wrong := i
				wrong.Size = size
				if size != i.Size && isa.Valid(wrong) {
					t.Fatalf("%+v is valid", wrong)
				}
			}
		})
	}
}

func TestP2_1_ValidWantsAnOperation(t *testing.T) {
	for _, op := range otherOps {
		for size := -1; size <= 8; size++ {
			if i := (api.Ins{Op: op, Size: size}); isa.Valid(i) {
				t.Errorf("%+v is valid", i)
			}
		}
	}
}

// Every word is tried as the Imm of an instruction of each format.
func TestP2_1_ValidImmediates(t *testing.T) {
	for _, r := range chapterTable {
		i := api.Ins{Op: r.first, Size: r.size, Bank: highest(r.has("l"), 1)}
		for imm := range 0x10000 {
			i.Imm = uint16(imm)
			if got, want := isa.Valid(i), modelValid(i); got != want {
				t.Fatalf("Valid(%+v) is %v; want %v", i, got, want)
			}
		}
	}
}

func TestP2_2_Encode(t *testing.T) {
	for _, x := range []struct {
		i    api.Ins
		want string
	}{
		{api.Ins{Op: api.NOP, Size: 1}, "\x00"},
		{api.Ins{Op: api.MOV, D: 1, S: 2, Size: 2}, "\x20\x12"},
		{api.Ins{Op: api.SAR, D: 7, S: 7, Size: 2}, "\x2e\x77"},
		{api.Ins{Op: 0x30, D: 1, Imm: 5, Size: 3}, "\x30\x01\x05"},
		{api.Ins{Op: 0x3e, D: 1, Imm: 0xff80, Size: 3}, "\x3e\x01\x80"},
		{api.Ins{Op: 0x41, D: 3, Imm: 0x1234, Size: 4}, "\x41\x03\x34\x12"},
		{api.Ins{Op: api.DROP, Imm: 255, Size: 2}, "\x15\xff"},
		{api.Ins{Op: api.STB + 8, D: 6, S: 1, Imm: 0xfedc, Size: 4}, "\x5b\x61\xdc\xfe"},
		{api.Ins{Op: api.CALLF, Bank: 63, Imm: 0x1fff, Size: 4}, "\x84\x3f\xff\x1f"},
		{api.Ins{Op: api.JTAB, D: 2, Bank: 255, Imm: 16, Aux: 320, Size: 7}, "\x85\x02\xff\x10\x00\x40\x01"},
		{api.Ins{Op: api.LDC, D: 1, S: 2, Bank: 3, Imm: 256, Size: 5}, "\x92\x12\x03\x00\x01"},
		{api.Ins{Op: api.STI, S: 7, Imm: 0x0102, Aux: 0x0304, Size: 6}, "\x96\x07\x02\x01\x04\x03"},
	} {
		if got, err := isa.Encode(x.i); got != x.want || err != api.OK {
			t.Errorf("Encode(%+v) is %x, %d; want %x", x.i, got, err, x.want)
		}
	}
	for _, op := range allOps {
		validOnes(op, func(i api.Ins) {
			if got, err := isa.Encode(i); got != modelBytes(i) || err != api.OK {
				t.Fatalf("Encode(%+v) is %x, %d; want %x", i, got, err, modelBytes(i))
			}
		})
	}
}

func TestP2_2_EncodeErrors(t *testing.T) {
	for _, x := range []struct {
		i    api.Ins
		want api.Errno
	}{
		{api.Ins{Op: api.LD, D: 1, S: 2, Imm: 300, Size: 3}, api.ErrRange},
		{api.Ins{Op: api.JTAB, Size: 7}, api.ErrRange},
		{api.Ins{Op: api.JTAB, Bank: 256, Size: 7}, api.ErrRange},
		{api.Ins{Op: api.LDC, Bank: 64, Size: 5}, api.ErrRange},
		{api.Ins{Op: api.LDC, Bank: -1, Size: 5}, api.ErrRange},
		{api.Ins{Op: api.MOV, D: 0, S: 16, Size: 2}, api.ErrRange},
		{api.Ins{Op: api.MOV, D: 1, S: -16, Size: 2}, api.ErrRange},
		{api.Ins{Op: api.MOV, D: 256, Size: 2}, api.ErrRange},
		{api.Ins{Op: api.STI, D: 1, S: 2, Size: 6}, api.ErrRange},
		{api.Ins{Op: api.NOP, Aux: 1, Size: 1}, api.ErrRange},
		{api.Ins{Op: api.NOP}, api.ErrRange},
		{api.Ins{Op: 0x06, Size: 1}, api.ErrIllegal},
		{api.Ins{Op: 0x06, D: -1, Imm: 1, Aux: 2, Bank: 3, Size: -9}, api.ErrIllegal},
		{api.Ins{Op: 0x100, Size: 1}, api.ErrIllegal},
		{api.Ins{Op: -255, Size: 1}, api.ErrIllegal},
	} {
		if got, err := isa.Encode(x.i); got != "" || err != x.want {
			t.Errorf("Encode(%+v) is %x, %d; want %d", x.i, got, err, x.want)
		}
	}
	for _, op := range otherOps {
		for _, size := range []int{0, 1, 4} {
			if got, err := isa.Encode(api.Ins{Op: op, D: 9, Size: size}); got != "" || err != api.ErrIllegal {
				t.Errorf("Encode with operation %d is %x, %d; want ErrIllegal", op, got, err)
			}
		}
	}
	for _, op := range allOps {
		r, _ := rowOf(op)
		anyOnes(op, r.size, func(i api.Ins) {
			if got, err := isa.Encode(i); !modelValid(i) && (got != "" || err != api.ErrRange) {
				t.Fatalf("Encode(%+v) is %x, %d; want ErrRange", i, got, err)
			}
		})
	}
}

func modelRegister(b byte) (int, bool) { return int(b), b < 8 }

func modelWord(s string) uint16 { return uint16(s[0]) + 256*uint16(s[1]) }

// modelDecode decodes a string that is long enough for its operation.
func modelDecode(s string) (api.Ins, bool) {
	r, _ := rowOf(int(s[0]))
	i := api.Ins{Op: int(s[0]), Size: r.size}
	at, ok, okS := 1, true, true
	for _, part := range strings.Fields(r.layout) {
		width := 1
		switch part {
		case "D":
			i.D, ok = modelRegister(s[at])
		case "S":
			i.S, ok = modelRegister(s[at])
		case "DS":
			i.D, ok = modelRegister(s[at] >> 4)
			i.S, okS = modelRegister(s[at] & 15)
		case "u":
			i.Imm = uint16(s[at])
		case "s":
			i.Imm = uint16(s[at])
			if s[at] >= 128 {
				i.Imm += 65280
			}
		case "w":
			i.Imm, width = modelWord(s[at:]), 2
		case "x":
			i.Aux, width = modelWord(s[at:]), 2
		case "b":
			i.Bank = int(s[at])
			ok = i.Bank <= 63
		case "l":
			i.Bank = int(s[at])
			ok = i.Bank >= 1
		}
		if !ok || !okS {
			return api.Ins{}, false
		}
		at += width
	}
	return i, true
}

func checkDecode(t *testing.T, s string, want api.Ins, wantErr api.Errno) {
	t.Helper()
	if got, err := isa.Decode(s); got != want || err != wantErr {
		t.Fatalf("Decode(%x) is %+v, %d; want %+v, %d", s, got, err, want, wantErr)
	}
}

func TestP2_3_Decode(t *testing.T) {
	checkDecode(t, "\x85\x02\x05\x10\x00\x40\x01", api.Ins{Op: api.JTAB, D: 2, Bank: 5, Imm: 16, Aux: 320, Size: 7}, api.OK)
	checkDecode(t, "\x30\x01\x05\xff\xff", api.Ins{Op: 0x30, D: 1, Imm: 5, Size: 3}, api.OK)
	checkDecode(t, "\x14\x80", api.Ins{Op: api.ENTER, Imm: 128, Size: 2}, api.OK)
	checkDecode(t, "\xa0\x01\xff", api.Ins{Op: api.LDS, D: 1, Imm: 255, Size: 3}, api.OK)
	checkDecode(t, "\xa2\x01\xff", api.Ins{Op: api.LDF, D: 1, Imm: 0xffff, Size: 3}, api.OK)
	checkDecode(t, "\x01\xe2\x82\xac", api.Ins{Op: api.RET, Size: 1}, api.OK)
	bytes := []byte{0, 1, 7, 8, 63, 64, 127, 128, 255}
	for _, op := range allOps {
		r, _ := rowOf(op)
		for second := range 256 {
			for _, third := range bytes {
				for _, later := range bytes {
					s := string([]byte{byte(op), byte(second), third, later, third, ^later, third + 1, later})
					want, ok := modelDecode(s)
					wantErr := api.OK
					if !ok {
						wantErr = api.ErrIllegal
					}
					checkDecode(t, s, want, wantErr)
					checkDecode(t, s[:r.size], want, wantErr)
				}
			}
		}
	}
}

func TestP2_3_DecodeShort(t *testing.T) {
	checkDecode(t, "", api.Ins{}, api.ErrShort)
	// Also bytes that no instruction begins with are short first: a register 8, a bank 64, a limit 0.
	for _, s := range []string{"\x20", "\x10", "\x30\x08", "\x50\x88", "\x83\x40", "\x83\x40\x00", "\x85\x08\x00\x00\x00\x00", "\x93\x99\xff\x00", "\x96\x08\x00\x00\x00"} {
		checkDecode(t, s, api.Ins{}, api.ErrShort)
	}
	for _, op := range allOps {
		r, _ := rowOf(op)
		for length := 1; length < r.size; length++ {
			for _, fill := range []string{"\x00", "\x01", "\xff"} {
				checkDecode(t, string([]byte{byte(op)})+strings.Repeat(fill, length-1), api.Ins{}, api.ErrShort)
			}
		}
	}
}

func TestP2_3_DecodeIllegal(t *testing.T) {
	for _, s := range []string{
		"\x06", "\x10\x08", "\x13\xff", "\x20\x80", "\x20\x08", "\x2e\x87", "\x30\x08\x00", "\x40\x10\x00\x00", "\x50\x78\x00", "\x58\x87\x00\x00",
		"\x54\x08\x00\x40", "\x83\x40\x00\x10", "\x84\xff\x00\x10", "\x85\x08\x01\x00\x00\x00\x00", "\x85\x00\x00\x00\x00\x00\x00", "\x86\x08\x00\x00",
		"\x90\x08\x00", "\x91\x80\x00", "\x92\x00\x40\x00\x00", "\x93\x08\x00\x00\x00", "\x96\x08\x00\x00\x00\x00", "\x96\x10\x00\x00\x00\x00", "\xa0\x08\x00", "\xa3\x08\x00",
	} {
		checkDecode(t, s, api.Ins{}, api.ErrIllegal)
		checkDecode(t, s+"\x00\x00", api.Ins{}, api.ErrIllegal)
	}
	for first := range 256 {
		if _, known := rowOf(first); !known {
			checkDecode(t, string([]byte{byte(first)}), api.Ins{}, api.ErrIllegal)
			checkDecode(t, string([]byte{byte(first), 1, 1, 1, 1, 1, 1, 1}), api.Ins{}, api.ErrIllegal)
		}
	}
}

func TestP2_4_Falls(t *testing.T) {
	ends := map[int]bool{api.RET: true, api.HLT: true, api.IRET: true, api.JMP: true, api.JMPW: true, api.JMPF: true, api.JTAB: true, api.JMPI: true}
	for _, op := range allOps {
		validOnes(op, func(i api.Ins) {
			if got := isa.Falls(i); got == ends[op] {
				t.Fatalf("Falls(%+v) is %v", i, got)
			}
		})
		r, _ := rowOf(op)
		for _, i := range []api.Ins{{Op: op}, {Op: op, Size: r.size + 1}, {Op: op, D: 8, Size: r.size}, {Op: op, S: -1, Size: r.size}, {Op: op, Bank: 256, Size: r.size}} {
			if isa.Falls(i) {
				t.Errorf("Falls is true for %+v, which is not valid", i)
			}
		}
	}
	for _, op := range otherOps {
		if isa.Falls(api.Ins{Op: op, Size: 1}) {
			t.Errorf("Falls is true for the operation %d", op)
		}
	}
}

func TestP2_4_TargetExamples(t *testing.T) {
	at := func(bank int, addr uint16) api.Place { return api.Place{Bank: bank, Addr: addr} }
	for _, x := range []struct {
		i        api.Ins
		at, want api.Place
		known    bool
	}{
		{api.Ins{Op: api.JMP, Imm: 0xfffe, Size: 2}, at(3, 0x1100), at(3, 0x1100), true},
		{api.Ins{Op: api.JMPW, Imm: 0x1000, Size: 3}, at(0, 0x0100), at(0, 0), false},
		{api.Ins{Op: api.JMP, Imm: 0, Size: 2}, at(0, 0x0ffe), at(0, 0), false},
		{api.Ins{Op: api.JMP, Imm: 0, Size: 2}, at(0, 0x0ffd), at(0, 0x0fff), true},
		{api.Ins{Op: api.JMP, Imm: 0xff80, Size: 2}, at(0, 2), at(0, 0xff84), true},
		{api.Ins{Op: api.JCC + api.CcLe, Imm: 127, Size: 2}, at(5, 0x1f7f), at(0, 0x2000), true},
		{api.Ins{Op: api.JCC + api.CcLe, Imm: 126, Size: 2}, at(5, 0x1f7f), at(5, 0x1fff), true},
		{api.Ins{Op: api.JCC + 0x10, Imm: 0xf000, Size: 3}, at(5, 0x1ffd), at(5, 0x1000), true},
		{api.Ins{Op: api.JCC + 0x10, Imm: 0xf000, Size: 3}, at(5, 0x1ffc), at(0, 0x0fff), true},
		{api.Ins{Op: api.CALL, Imm: 1, Size: 3}, at(0, 0), at(0, 4), true},
		{api.Ins{Op: api.CALL, Imm: 0, Size: 3}, at(-7, 0x1000), at(-7, 0x1003), true},
		{api.Ins{Op: api.CALL, Imm: 0, Size: 3}, at(-7, 0x0000), at(0, 0x0003), true},
		{api.Ins{Op: api.JTAB, Bank: 1, Imm: 1, Aux: 0x1800, Size: 7}, at(9, 0x1000), at(9, 0x1008), true},
		{api.Ins{Op: api.JTAB, Bank: 1, Imm: 0x0ff8, Size: 7}, at(0, 0), at(0, 0x0fff), true},
		{api.Ins{Op: api.JTAB, Bank: 1, Imm: 0x0ff9, Size: 7}, at(0, 0), at(0, 0), false},
		{api.Ins{Op: api.JMPF, Bank: 9, Imm: 0x1000, Size: 4}, at(0, 0), at(9, 0x1000), true},
		{api.Ins{Op: api.JMPF, Bank: 9, Imm: 0x1fff, Size: 4}, at(3, 0x1800), at(9, 0x1fff), true},
		{api.Ins{Op: api.CALLF, Bank: 9, Imm: 0x0fff, Size: 4}, at(3, 0x1800), at(0, 0x0fff), true},
		{api.Ins{Op: api.CALLF, Bank: 9, Imm: 0x2000, Size: 4}, at(3, 0x1800), at(0, 0x2000), true},
		{api.Ins{Op: api.JMPI, D: 1, Imm: 0x0100, Size: 4}, at(0, 0), at(0, 0), false},
		{api.Ins{Op: api.LDA, Imm: 0x0100, Size: 4}, at(0, 0), at(0, 0), false},
		{api.Ins{Op: api.JMP, Imm: 1, Size: 3}, at(0, 0), at(0, 0), false},
		{api.Ins{Op: api.JMPF, Bank: 64, Imm: 1, Size: 4}, at(0, 0), at(0, 0), false},
		{api.Ins{Op: 0x6e, Imm: 1, Size: 2}, at(0, 0), at(0, 0), false},
	} {
		if got, known := isa.Target(x.i, x.at); got != x.want || known != x.known {
			t.Errorf("Target(%+v, %+v) is %+v, %v; want %+v, %v", x.i, x.at, got, known, x.want, x.known)
		}
	}
}

// modelTarget counts in integers; relative are the operations of the first item of P2.4.
func modelTarget(i api.Ins, at api.Place) (api.Place, bool) {
	relative := within(i.Op, 0x60, 0x6d) || within(i.Op, 0x70, 0x7d) || within(i.Op, 0x80, 0x82) || i.Op == 0x85
	far := within(i.Op, 0x83, 0x84)
	addr := int(i.Imm)
	if relative {
		addr = (int(at.Addr) + i.Size + int(i.Imm)) % 65536
	}
	isWindow := within(addr, 0x1000, 0x1fff)
	switch {
	case !relative && !far, relative && isWindow && !within(int(at.Addr), 0x1000, 0x1fff):
		return api.Place{}, false
	case relative && isWindow:
		return api.Place{Bank: at.Bank, Addr: uint16(addr)}, true
	case far && isWindow:
		return api.Place{Bank: i.Bank, Addr: uint16(addr)}, true
	}
	return api.Place{Addr: uint16(addr)}, true
}

func TestP2_4_Target(t *testing.T) {
	for _, op := range allOps {
		validOnes(op, func(i api.Ins) {
			for _, at := range places {
				want, wantKnown := modelTarget(i, at)
				if got, known := isa.Target(i, at); got != want || known != wantKnown {
					t.Fatalf("Target(%+v, %+v) is %+v, %v; want %+v, %v", i, at, got, known, want, wantKnown)
				}
				wrong := i
				wrong.Size++
				if got, known := isa.Target(wrong, at); got != (api.Place{}) || known {
					t.Fatalf("Target(%+v, %+v) is %+v, %v, but the instruction is not valid", wrong, at, got, known)
				}
			}
		})
	}
}

func TestP2_5_LineExamples(t *testing.T) {
	at := api.Place{Bank: 2, Addr: 0x1200}
	for _, x := range []struct {
		i    api.Ins
		want string
	}{
		{api.Ins{Op: api.LDC, D: 1, S: 2, Bank: 3, Imm: 256, Size: 5}, "ldc r1, 3:[r2+0x0100]"},
		{api.Ins{Op: api.LDCB, D: 0, S: 7, Bank: 63, Imm: 0xffff, Size: 5}, "ldcb r0, 63:[r7+0xffff]"},
		{api.Ins{Op: api.RET, Size: 1}, "ret"},
		{api.Ins{Op: api.PUSH, D: 7, Size: 2}, "push r7"},
		{api.Ins{Op: api.DROP, Imm: 255, Size: 2}, "drop 255"},
		{api.Ins{Op: api.ENTER, Size: 2}, "enter 0"},
		{api.Ins{Op: api.MOV, D: 0, S: 7, Size: 2}, "mov r0, r7"},
		{api.Ins{Op: api.TST + 0x10, D: 5, Imm: 0xff80, Size: 3}, "tst.b r5, -128"},
		{api.Ins{Op: api.TST + 0x20, D: 5, Imm: 0x7fff, Size: 4}, "tst.w r5, 32767"},
		{api.Ins{Op: api.TST + 0x20, D: 5, Imm: 0x8000, Size: 4}, "tst.w r5, -32768"},
		{api.Ins{Op: api.LD, D: 1, S: 2, Size: 3}, "ld r1, [r2+0]"},
		{api.Ins{Op: api.STB, D: 1, S: 2, Imm: 0xffff, Size: 3}, "stb r1, [r2-1]"},
		{api.Ins{Op: api.LD + 8, D: 1, S: 2, Size: 4}, "ld.w r1, [r2+0]"},
		{api.Ins{Op: api.STB + 8, D: 1, S: 2, Imm: 0x8000, Size: 4}, "stb.w r1, [r2-32768]"},
		{api.Ins{Op: api.LDA, D: 3, Imm: 0x0abc, Size: 4}, "lda r3, [0x0abc]"},
		{api.Ins{Op: api.JCC + api.CcHi, Imm: 0xff80, Size: 2}, "jhi 0x1182"},
		{api.Ins{Op: api.JCC + 0x10 + api.CcLe, Imm: 0xffff, Size: 3}, "jle.w 0x1202"},
		{api.Ins{Op: api.JMP, Size: 2}, "jmp 0x1202"},
		{api.Ins{Op: api.JMPW, Imm: 0xedfd, Size: 3}, "jmpw 0x0000"},
		{api.Ins{Op: api.CALL, Imm: 0xedfe, Size: 3}, "call 0x0001"},
		{api.Ins{Op: api.JMPF, Imm: 0x000f, Size: 4}, "jmpf 0:0x000f"},
		{api.Ins{Op: api.CALLF, Bank: 10, Imm: 0x1000, Size: 4}, "callf 10:0x1000"},
		{api.Ins{Op: api.JTAB, D: 7, Bank: 255, Imm: 0xfff9, Aux: 0xbeef, Size: 7}, "jtab r7, 255, 0x1200, 0xbeef"},
		{api.Ins{Op: api.JMPI, D: 1, Imm: 0x00ab, Size: 4}, "jmpi r1, 0x00ab"},
		{api.Ins{Op: api.IN, D: 1, Imm: 200, Size: 3}, "in r1, 200"},
		{api.Ins{Op: api.OUT, D: 1, Imm: 200, Size: 3}, "out 200, r1"},
		{api.Ins{Op: api.STI, S: 4, Aux: 0xffff, Size: 6}, "sti [r4+0], -1"},
		{api.Ins{Op: api.STI, S: 4, Imm: 0x8000, Aux: 0x7fff, Size: 6}, "sti [r4-32768], 32767"},
		{api.Ins{Op: api.LDS, D: 4, Imm: 255, Size: 3}, "lds r4, 255"},
		{api.Ins{Op: api.STF, D: 4, Imm: 0xff80, Size: 3}, "stf r4, -128"},
		{api.Ins{Op: api.LDF, D: 4, Imm: 127, Size: 3}, "ldf r4, 127"},
		{api.Ins{Op: api.RET, Size: 2}, ""},
		{api.Ins{Op: api.PUSH, D: 8, Size: 2}, ""},
		{api.Ins{Op: 0x06, Size: 1}, ""},
		{api.Ins{Op: 0x106, Size: 1}, ""},
		{api.Ins{Op: -1}, ""},
		{api.Ins{Op: api.JTAB, Size: 7}, ""},
	} {
		if got := isa.Line(x.i, at); got != x.want {
			t.Errorf("Line(%+v) is %q; want %q", x.i, got, x.want)
		}
	}
}

// A target is an address also where its place is not known, and does not depend on the bank.
func TestP2_5_LineOfUnknownTarget(t *testing.T) {
	i := api.Ins{Op: api.JMPW, Imm: 0x1000, Size: 3}
	for _, bank := range []int{0, 5, -1, math.MaxInt} {
		if got := isa.Line(i, api.Place{Bank: bank, Addr: 0x0100}); got != "jmpw 0x1103" {
			t.Errorf("in bank %d the line is %q", bank, got)
		}
	}
}

// modelMnemonics lists the mnemonics of all operations in the order of allOps.
var modelMnemonics = strings.Fields(`
nop ret hlt iret poll leave push pop neg not enter drop
mov add adc sub sbb and or xor cmp tst mul div shl shr sar
mov.b add.b adc.b sub.b sbb.b and.b or.b xor.b cmp.b tst.b mul.b div.b shl.b shr.b sar.b
mov.w add.w adc.w sub.w sbb.w and.w or.w xor.w cmp.w tst.w mul.w div.w shl.w shr.w sar.w
ld ldb st stb ld.w ldb.w st.w stb.w lda ldab sta stab
jeq jne jcs jcc jmi jpl jvs jvc jhi jls jge jlt jgt jle
jeq.w jne.w jcs.w jcc.w jmi.w jpl.w jvs.w jvc.w jhi.w jls.w jge.w jlt.w jgt.w jle.w
jmp jmpw call jmpf callf jtab jmpi in out ldc ldcb sti lds sts ldf stf`)

func modelOperands(i api.Ins, at api.Place) string {
	r, _ := rowOf(i.Op)
	target := fmt.Sprintf("0x%04x", (int(at.Addr)+i.Size+int(i.Imm))%65536)
	switch {
	case r.layout == "":
		return ""
	case i.Op <= 0x13:
		return fmt.Sprintf(" r%d", i.D)
	case i.Op <= 0x15:
		return fmt.Sprintf(" %d", i.Imm)
	case i.Op <= 0x2e:
		return fmt.Sprintf(" r%d, r%d", i.D, i.S)
	case i.Op <= 0x4e, i.Op >= 0xa2:
		return fmt.Sprintf(" r%d, %d", i.D, int16(i.Imm))
	case i.Op <= 0x53, within(i.Op, 0x58, 0x5b):
		return fmt.Sprintf(" r%d, [r%d%+d]", i.D, i.S, int16(i.Imm))
	case i.Op <= 0x57:
		return fmt.Sprintf(" r%d, [0x%04x]", i.D, i.Imm)
	case i.Op <= 0x82:
		return " " + target
	case i.Op <= 0x84:
		return fmt.Sprintf(" %d:0x%04x", i.Bank, i.Imm)
	case i.Op == 0x85:
		return fmt.Sprintf(" r%d, %d, %s, 0x%04x", i.D, i.Bank, target, i.Aux)
	case i.Op == 0x86:
		return fmt.Sprintf(" r%d, 0x%04x", i.D, i.Imm)
	case i.Op == 0x91:
		return fmt.Sprintf(" %d, r%d", i.Imm, i.D)
	case within(i.Op, 0x92, 0x93):
		return fmt.Sprintf(" r%d, %d:[r%d+0x%04x]", i.D, i.Bank, i.S, i.Imm)
	case i.Op == 0x96:
		return fmt.Sprintf(" [r%d%+d], %d", i.S, int16(i.Imm), int16(i.Aux))
	}
	return fmt.Sprintf(" r%d, %d", i.D, i.Imm)
}

func TestP2_5_Line(t *testing.T) {
	if len(modelMnemonics) != len(allOps) {
		t.Fatalf("the test lists %d mnemonics for %d operations", len(modelMnemonics), len(allOps))
	}
	for k, op := range allOps {
		tried := 0
		validOnes(op, func(i api.Ins) {
			at := places[tried%len(places)]
			tried++
			if got, want := isa.Line(i, at), modelMnemonics[k]+modelOperands(i, at); got != want {
				t.Fatalf("Line(%+v, %+v) is %q; want %q", i, at, got, want)
			}
		})
	}
}

func TestP2_5_LineOfInvalid(t *testing.T) {
	for _, op := range append(otherOps, allOps...) {
		for _, i := range []api.Ins{{Op: op, Size: 8}, {Op: op}, {Op: op, D: 8, Size: isa.Size(byte(op))}, {Op: op, Bank: -1, Size: isa.Size(byte(op))}} {
			for _, at := range places {
				if got := isa.Line(i, at); got != "" {
					t.Fatalf("Line(%+v, %+v) is %q, but the instruction is not valid", i, at, got)
				}
			}
		}
	}
}

func TestP2_6_DecodeUndoesEncode(t *testing.T) {
	for _, op := range allOps {
		validOnes(op, func(i api.Ins) {
			code, _ := isa.Encode(i)
			for _, rest := range []string{"", "\x00", "\xff\xff\xff\xff\xff\xff\xff"} {
				if got, err := isa.Decode(code + rest); got != i || err != api.OK {
					t.Fatalf("Decode(%x) is %+v, %d; want %+v", code+rest, got, err, i)
				}
			}
			for length := range len(code) {
				if got, err := isa.Decode(code[:length]); got != (api.Ins{}) || err != api.ErrShort {
					t.Fatalf("Decode(%x), a part of an encoding, is %+v, %d; want ErrShort", code[:length], got, err)
				}
			}
		})
	}
}

// scrambled returns bytes that differ from step to step but not from run to run.
func scrambled(step uint64) string {
	x := step*0x9e3779b97f4a7c15 + 0x7f4a7c15
	x ^= x >> 29
	x *= 0xbf58476d1ce4e5b9
	x ^= x >> 32
	code := make([]byte, 8)
	for k := range code {
		code[k] = byte(x >> (8 * k))
	}
	return string(code)
}

func TestP2_6_EncodeUndoesDecode(t *testing.T) {
	accepted := 0
	for step := range uint64(1 << 20) {
		s := scrambled(step)
		i, err := isa.Decode(s)
		if err != api.OK {
			continue
		}
		accepted++
		if code, err := isa.Encode(i); err != api.OK || !strings.HasPrefix(s, code) || len(code) != i.Size || !isa.Valid(i) {
			t.Fatalf("Decode(%x) is %+v, whose encoding is %x, %d", s, i, code, err)
		}
	}
	if accepted < 1000 {
		t.Errorf("only %d strings were accepted", accepted)
	}
}

// R4: the results of calls do not depend on earlier calls.
func TestP1_CallsAreIndependent(t *testing.T) {
	texts := func() string {
		var all strings.Builder
		for _, op := range append(allOps, otherOps...) {
			i := api.Ins{Op: op, Imm: 3, Size: isa.Size(byte(op))}
			code, err := isa.Encode(i)
			back, backErr := isa.Decode(code)
			place, known := isa.Target(i, api.Place{Bank: 4, Addr: 0x1ff9})
			fmt.Fprintln(&all, code, err, back, backErr, place, known, isa.Falls(i), isa.Line(i, api.Place{}))
		}
		return all.String()
	}
	if first := texts(); texts() != first {
		t.Errorf("calls return other results the second time")
	}
}
