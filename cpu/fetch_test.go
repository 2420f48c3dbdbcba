package cpu_test

import (
	"fmt"
	"math"
	"slices"
	"strings"
	"testing"

	"vellum/api"
	"vellum/cpu"
)

// nops is a bank of one-byte instructions that do nothing.
var nops = strings.Repeat("\x00", api.BankSize)

// ending returns a bank of NOP that ends with some bytes.
func ending(code string) string { return nops[len(code):] + code }

func TestP4_2_MissingCode(t *testing.T) {
	long := ending("\x40") + "\x01\x02\x03\x04\x05\x06"
	many := slices.Repeat([]string{nops}, 80)
	for what, x := range map[string]struct {
		banks []string
		bank  int
		pc    uint16
		want  api.Trap
	}{
		"no banks":                       {nil, 0, 0, api.Trap{Kind: api.Fault, Info: 0}},
		"no banks, window":               {nil, 0, 0x1000, api.Trap{Kind: api.Fault, Info: 0x1000}},
		"no place":                       {[]string{nops}, 0, 0xffff, api.Trap{Kind: api.Return}},
		"no place and no banks":          {nil, -1, 0xffff, api.Trap{Kind: api.Return}},
		"before no place":                {[]string{nops}, 0, 0xfffe, api.Trap{Kind: api.Fault, Info: 0xfffe}},
		"behind the window":              {[]string{nops}, 0, 0x2000, api.Trap{Kind: api.Fault, Info: 0x2000}},
		"RAM":                            {[]string{nops}, 0, 0x4000, api.Trap{Kind: api.Fault, Info: 0x4000}},
		"first byte":                     {[]string{nops}, 0, 0, api.Trap{}},
		"bank 0 with any selected":       {[]string{nops}, 77, 0x0fff, api.Trap{}},
		"bank 0 with a negative one":     {[]string{nops}, math.MinInt, 0x0fff, api.Trap{}},
		"bank 0 in the window":           {[]string{nops}, 0, 0x1fff, api.Trap{}},
		"bank that is missing":           {[]string{nops}, 1, 0x1abc, api.Trap{Kind: api.Fault, Info: 0x1abc}},
		"negative bank":                  {[]string{nops}, -1, 0x1000, api.Trap{Kind: api.Fault, Info: 0x1000}},
		"last bank":                      {many, 63, 0x1000, api.Trap{}},
		"bank 64":                        {many, 64, 0x1000, api.Trap{Kind: api.Fault, Info: 0x1000}},
		"great bank":                     {many, math.MaxInt, 0x1000, api.Trap{Kind: api.Fault, Info: 0x1000}},
		"empty bank":                     {[]string{"", nops}, 1, 0, api.Trap{Kind: api.Fault, Info: 0}},
		"short bank":                     {[]string{nops[:5]}, 0, 4, api.Trap{}},
		"end of a short bank":            {[]string{nops[:5]}, 0, 5, api.Trap{Kind: api.Fault, Info: 5}},
		"long bank":                      {[]string{long}, 5, 0x1000, api.Trap{Kind: api.Fault, Info: 0x1000}},
		"last byte of 3 in bank 0":       {[]string{ending("\x30\x01\x05")}, 0, 0x0ffd, api.Trap{}},
		"last byte of 3 in the window":   {[]string{nops, ending("\x30\x01\x05")}, 1, 0x1ffd, api.Trap{}},
		"over the end of bank 0":         {[]string{ending("\x30\x01")}, 0, 0x0ffe, api.Trap{Kind: api.Fault, Info: 0x1000}},
		"over the end of the window":     {[]string{nops, ending("\x30\x01")}, 1, 0x1ffe, api.Trap{Kind: api.Fault, Info: 0x2000}},
		"over the end, first byte":       {[]string{ending("\x85")}, 0, 0x0fff, api.Trap{Kind: api.Fault, Info: 0x1000}},
		"over the end of a long bank":    {[]string{long}, 0, 0x0fff, api.Trap{Kind: api.Fault, Info: 0x1000}},
		"long bank in the window":        {[]string{nops, long}, 1, 0x1fff, api.Trap{Kind: api.Fault, Info: 0x2000}},
		"over the end of a short bank":   {[]string{"\x40\x01\x02"}, 0, 0, api.Trap{Kind: api.Fault, Info: 3}},
		"whole short bank":               {[]string{"\x40\x01\x02\x03"}, 0, 0, api.Trap{}},
		"short bank in the window":       {[]string{"\x40\x01\x02\x03", "\x85\x01"}, 1, 0x1000, api.Trap{Kind: api.Fault, Info: 0x1002}},
		"no instruction":                 {[]string{"\xff"}, 0, 0, api.Trap{Kind: api.Illegal}},
		"no instruction at the end":      {[]string{ending("\x06")}, 0, 0x0fff, api.Trap{Kind: api.Illegal}},
		"wrong register":                 {[]string{"\x10\x08"}, 0, 0, api.Trap{Kind: api.Illegal}},
		"wrong register, short":          {[]string{"\x30\x08"}, 0, 0, api.Trap{Kind: api.Fault, Info: 2}},
		"wrong register, end of bank 0":  {[]string{ending("\x30\x08")}, 0, 0x0ffe, api.Trap{Kind: api.Fault, Info: 0x1000}},
		"wrong bank":                     {[]string{"\x83\x40\x00\x10"}, 0, 0, api.Trap{Kind: api.Illegal}},
		"wrong limit":                    {[]string{"\x85\x00\x00\x00\x00\x00\x00"}, 0, 0, api.Trap{Kind: api.Illegal}},
		"bank 0, not that in the window": {[]string{"\xff", "\x00"}, 1, 0, api.Trap{Kind: api.Illegal}},
		"that in the window, not bank 0": {[]string{"\xff", "\x00"}, 1, 0x1000, api.Trap{}},
	} {
		i := api.Image{Banks: x.banks}
		s := changed(busy(), setBank(x.bank), setPC(x.pc))
		got, trap := cpu.Step(i, someTape, s)
		if trap != x.want {
			t.Errorf("%s: trap %v, want %v", what, trap, x.want)
		}
		if trap.Kind != api.NoTrap && !equal(got, modelNormal(s)) {
			t.Errorf("%s: %s", what, describe(got))
		}
		checkLikeModel(t, what, i, someTape, s)
	}
}

func TestP4_2_EveryFirstByte(t *testing.T) {
	for first := range 256 {
		for _, rest := range []string{"", "\x01", "\x01\x01\x01\x01\x01\x01", "\x88\x88\x88\x88\x88\x88"} {
			for _, pc := range []uint16{0, 0x0ff9, 0x0ffe, 0x0fff, 0x1000, 0x1ffd, 0x1fff} {
				bank := bankWith(map[int]string{int(pc) % 0x1000: string([]byte{byte(first)}) + rest})
				i := api.Image{Banks: []string{bank, bank}}
				checkLikeModel(t, fmt.Sprintf("%#x, %x at %#x", first, rest, pc), i, someTape, changed(busy(), setPC(pc)))
			}
		}
	}
}

func TestP4_3_StepsAndNextAddress(t *testing.T) {
	for steps, want := range map[int]int{0: 1, 41: 42, -1: 0, math.MinInt: math.MinInt + 1, math.MaxInt - 1: math.MaxInt, math.MaxInt: math.MinInt} {
		got, trap := cpu.Step(api.Image{Banks: []string{nops}}, api.Tape{}, api.Snap{S: api.State{Steps: steps}})
		if trap != (api.Trap{}) || got.S.Steps != want {
			t.Errorf("after %d steps: trap %v, %d steps, want %d", steps, trap, got.S.Steps, want)
		}
	}
	for pc, bank := range map[uint16]int{0: 0, 0x0fff: 0, 0x1000: 1, 0x1fff: 1} {
		s := changed(busy(), setPC(pc), setBank(bank))
		want := modelNormal(s)
		want.S.PC++
		want.S.Steps++
		checkStep(t, fmt.Sprintf("NOP at %#x", pc), api.Image{Banks: []string{nops, nops}}, someTape, s, want, api.Trap{})
	}
}

// odd has nothing of the normal form.
func odd() api.Snap {
	s := busy()
	s.S.SP, s.S.Inputs, s.S.Polls, s.S.Steps = 77, -3, math.MinInt, math.MaxInt
	return changed(s, setStack(numbered(4200)...), func(s *api.Snap) { s.Ram = strings.Repeat("xyz", 3000) })
}

func TestP4_3_TrapsChangeNothing(t *testing.T) {
	for _, s := range []api.Snap{busy(), odd(), changed(busy(), setStack(numbered(4096)...), setFP(4096)), changed(busy(), setStack(numbered(11)...)), changed(busy(), setStack(), setFP(0))} {
		for _, ins := range []api.Ins{
			{Op: api.HLT}, {Op: api.RET}, {Op: api.IRET}, {Op: api.POLL}, {Op: api.LEAVE}, {Op: api.PUSH}, {Op: api.POP, D: 3}, {Op: api.ENTER}, {Op: api.ENTER, Imm: 255}, {Op: api.DROP, Imm: 255}, {Op: api.DROP, Imm: 1},
			{Op: api.DIV + 0x10, D: 1}, {Op: api.LDA, D: 1, Imm: 0x3fff}, {Op: api.STA, D: 1, Imm: 0x5fff}, {Op: api.STA, D: 1, Imm: 0x3fff}, {Op: api.STI, S: 3, Imm: 0xdffb, Aux: 0x1234},
			{Op: api.LDC, D: 2, Bank: 2, Imm: 0x0801, S: 3}, {Op: api.LDC, D: 2, Bank: 3}, {Op: api.CALL}, {Op: api.CALLF, Bank: 2, Imm: 0x1000}, {Op: api.JMPI, D: 3, Imm: 0x1fff},
			{Op: api.LDS, D: 1, Imm: 255}, {Op: api.STS, D: 1, Imm: 255}, {Op: api.LDF, D: 1, Imm: 127}, {Op: api.STF, D: 1, Imm: 0xff80},
		} {
			s := changed(s, setPC(0x0123))
			got, trap := cpu.Step(imageOf(ins), someTape, s)
			if trap.Kind != api.NoTrap && !equal(got, modelNormal(s)) {
				t.Errorf("%+v, trap %v: %s", ins, trap, describe(got))
			}
			checkLikeModel(t, fmt.Sprintf("%+v", ins), imageOf(ins), someTape, s)
		}
	}
}

// Every function makes its argument normal, also if it does nothing else.
func TestP4_3_ResultsAreNormal(t *testing.T) {
	for what, s := range map[string]api.Snap{
		"empty": {}, "busy": busy(), "odd": odd(), "SP": {S: api.State{SP: 5}}, "no RAM": {Stack: numbered(3)},
		"RAM": {Ram: zeroBank + zeroBank + "x"}, "stack": {Stack: numbered(4097)}, "long stack": {Stack: numbered(0x10003)},
	} {
		for _, pc := range []uint16{0, 0xffff} {
			s := changed(s, setPC(pc))
			want := modelNormal(s)
			if got, trap := cpu.Step(api.Image{}, api.Tape{}, s); trap.Kind == api.NoTrap || !equal(got, want) {
				t.Errorf("%s: Step: %s", what, describe(got))
			}
			if got, trap := cpu.Run(api.Image{}, api.Tape{}, s, 1); trap.Kind == api.Budget || !equal(got, want) {
				t.Errorf("%s: Run: %s", what, describe(got))
			}
			want.S.PC++
			want.S.Steps++
			if got, trap := cpu.Step(program(api.Ins{Op: api.NOP}), api.Tape{}, s); pc == 0 && (trap.Kind != api.NoTrap || !equal(got, want)) {
				t.Errorf("%s: NOP: %s", what, describe(got))
			}
		}
	}
}
