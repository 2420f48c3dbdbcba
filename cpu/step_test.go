package cpu_test

import (
	"fmt"
	"math"
	"slices"
	"testing"

	"vellum/api"
)

const (
	z = api.FlagZ
	n = api.FlagN
	c = api.FlagC
	v = api.FlagV
)

func TestP4_4_Arithmetic(t *testing.T) {
	for _, x := range []struct {
		op          int
		a, b, flags uint16
		want, after uint16
	}{
		{api.MOV, 7, 0, 0xfff6, 0, 0xfff6},
		{api.MOV, 7, 0x8001, 0, 0x8001, 0},
		{api.ADD, 0xffff, 1, 0xfffc, 0, z + c},
		{api.ADD, 0x7fff, 1, c, 0x8000, n + v},
		{api.ADD, 1, 1, c, 2, 0},
		{api.ADC, 1, 1, c, 3, 0},
		{api.ADC, 1, 1, 0xfffb, 2, 0},
		{api.ADC, 0xffff, 0, c, 0, z + c},
		{api.SUB, 1, 2, 0, 0xffff, n},
		{api.SUB, 2, 2, 0, 0, z + c},
		{api.SUB, 0x8000, 1, 0xffff, 0x7fff, c + v},
		{api.SBB, 2, 2, 0, 0xffff, n},
		{api.SBB, 2, 2, c, 0, z + c},
		{api.SBB, 5, 2, 0xfffb, 2, c},
		{api.CMP, 1, 2, 0, 1, n},
		{api.CMP, 2, 2, 0, 2, z + c},
		{api.AND, 0x8f0f, 0x80ff, 0xffff, 0x800f, n + c + v},
		{api.AND, 0x0f0f, 0xf0f0, v, 0, z + v},
		{api.OR, 0x0f00, 0x00f0, 0xfff7, 0x0ff0, c},
		{api.OR, 0, 0, n, 0, z},
		{api.XOR, 0xff00, 0x0ff0, 0, 0xf0f0, n},
		{api.XOR, 0x1234, 0x1234, c, 0, z + c},
		{api.TST, 0x8f0f, 0x80ff, 0xffff, 0x8f0f, n + c + v},
		{api.TST, 0x0f0f, 0xf0f0, v, 0x0f0f, z + v},
		{api.MUL, 0x0101, 0x0100, c, 0x0100, c},
		{api.MUL, 0x8000, 2, 0, 0, z},
		{api.MUL, 0xffff, 0xffff, n, 1, 0},
		{api.DIV, 0xffff, 2, z + v, 0x7fff, v},
		{api.DIV, 0xffff, 0xffff, 0, 1, 0},
		{api.DIV, 5, 6, c, 0, z + c},
		{api.DIV, 0x8000, 1, c, 0x8000, n + c},
		{api.SHL, 0x8001, 1, c, 2, c},
		{api.SHL, 0x4001, 17, 0, 0x8002, n},
		{api.SHL, 0x4001, 16, v, 0x4001, v},
		{api.SHR, 0x8001, 15, n, 1, 0},
		{api.SHR, 0x8001, 0xffff, n, 1, 0},
		{api.SAR, 0x8001, 15, c, 0xffff, n + c},
		{api.SAR, 0x4000, 15, 0, 0, z},
	} {
		changes := []func(*api.Snap){setR(3, x.want), setF(x.after)}
		before := changed(busy(), setR(3, x.a), setF(x.flags))
		checkEffect(t, api.Ins{Op: x.op, D: 3, S: 5}, changed(before, setR(5, x.b)), append(changes, setR(5, x.b))...)
		checkEffect(t, api.Ins{Op: x.op + 0x20, D: 3, Imm: x.b}, before, changes...)
		if x.b < 0x80 || x.b >= 0xff80 {
			checkEffect(t, api.Ins{Op: x.op + 0x10, D: 3, Imm: x.b}, before, changes...)
		}
		if x.a == x.b {
			checkEffect(t, api.Ins{Op: x.op, D: 3, S: 3}, before, changes...)
		}
	}
}

func TestP4_4_NegAndNot(t *testing.T) {
	for _, x := range []struct {
		op                    int
		a, flags, want, after uint16
	}{
		{api.NEG, 0, 0xffff, 0, z + c}, {api.NEG, 1, 0, 0xffff, n}, {api.NEG, 0x8000, c, 0x8000, n + v}, {api.NEG, 0xffff, c, 1, 0},
		{api.NOT, 0, 0xffff, 0xffff, n + c + v}, {api.NOT, 0xffff, n, 0, z}, {api.NOT, 0x8000, c, 0x7fff, c},
	} {
		checkEffect(t, api.Ins{Op: x.op, D: 7}, changed(busy(), setR(7, x.a), setF(x.flags)), setR(7, x.want), setF(x.after))
		checkEffect(t, api.Ins{Op: x.op, D: 0}, changed(busy(), setR(0, x.a), setF(x.flags)), setR(0, x.want), setF(x.after))
	}
}

func TestP4_4_DivideByZero(t *testing.T) {
	for _, ins := range []api.Ins{{Op: api.DIV, D: 1, S: 2}, {Op: api.DIV, D: 2, S: 2}, {Op: api.DIV + 0x10, D: 1}, {Op: api.DIV + 0x20, D: 1}} {
		checkTrap(t, ins, changed(busy(), setR(2, 0)), api.Divide, 0)
	}
}

// All operations with all pairs of some operands, and with the flags that matter.
func TestP4_4_ArithmeticIsThatOfTheModel(t *testing.T) {
	operands := []uint16{0, 1, 2, 15, 16, 0x7f, 0x80, 0x7fff, 0x8000, 0x8001, 0xff80, 0xffff}
	for _, op := range ops {
		form := op &^ 0x0f
		if form < 0x20 && op != api.NEG && op != api.NOT || form > 0x40 {
			continue
		}
		for k, a := range operands {
			for j, b := range operands {
				ins := api.Ins{Op: op, D: 1}
				switch {
				case form == 0x20:
					ins.S = 2
				case form == 0x30 && (b < 0x80 || b >= 0xff80), form == 0x40:
					ins.Imm = b
				}
				flags := []uint16{0, c, 0xffff, 0xfffb, v, c + v}[(k+j)%6]
				s := changed(busy(), setPC(0x0123), setR(1, a), setR(2, b), setF(flags))
				checkLikeModel(t, fmt.Sprintf("%+v of %#x, %#x with flags %#x", ins, a, b, flags), imageOf(ins), someTape, s)
			}
		}
	}
}

func TestP4_5_Loads(t *testing.T) {
	s := changed(busy(), setRam(0x4000, "\x01\x82\x03"), setRam(0x5ffe, "\xfe\xff"), setR(2, 0x4001), setR(3, 0xfff0))
	for _, x := range []struct {
		ins  api.Ins
		want uint16
	}{
		{api.Ins{Op: api.LD, D: 1, S: 2}, 0x0382},
		{api.Ins{Op: api.LD, D: 1, S: 2, Imm: 0xffff}, 0x8201},
		{api.Ins{Op: api.LD, D: 2, S: 2, Imm: 0xffff}, 0x8201},
		{api.Ins{Op: api.LDB, D: 1, S: 2}, 0x0082},
		{api.Ins{Op: api.LDB, D: 2, S: 2, Imm: 1}, 0x0003},
		{api.Ins{Op: api.LD + 8, D: 1, S: 2, Imm: 0x1ffd}, 0xfffe},
		{api.Ins{Op: api.LD + 8, D: 1, S: 3, Imm: 0x4010}, 0x8201},
		{api.Ins{Op: api.LDB + 8, D: 1, S: 2, Imm: 0x1ffe}, 0x00ff},
		{api.Ins{Op: api.LDA, D: 1, Imm: 0x4001}, 0x0382},
		{api.Ins{Op: api.LDA, D: 0, Imm: 0x5ffe}, 0xfffe},
		{api.Ins{Op: api.LDAB, D: 1, Imm: 0x4001}, 0x0082},
		{api.Ins{Op: api.LDAB, D: 0, Imm: 0x5fff}, 0x00ff},
	} {
		checkEffect(t, x.ins, s, setR(x.ins.D, x.want))
	}
}

func TestP4_5_Stores(t *testing.T) {
	s := changed(busy(), setR(1, 0xa1b2), setR(2, 0x4001), setR(3, 0xfff0))
	for _, x := range []struct {
		ins  api.Ins
		at   int
		want string
	}{
		{api.Ins{Op: api.ST, D: 1, S: 2}, 0x4001, "\xb2\xa1"},
		{api.Ins{Op: api.ST, D: 1, S: 2, Imm: 0xffff}, 0x4000, "\xb2\xa1"},
		{api.Ins{Op: api.ST, D: 2, S: 2}, 0x4001, "\x01\x40"},
		{api.Ins{Op: api.STB, D: 1, S: 2, Imm: 0x7f}, 0x4080, "\xb2"},
		{api.Ins{Op: api.ST + 8, D: 1, S: 2, Imm: 0x1ffd}, 0x5ffe, "\xb2\xa1"},
		{api.Ins{Op: api.ST + 8, D: 1, S: 3, Imm: 0x4010}, 0x4000, "\xb2\xa1"},
		{api.Ins{Op: api.STB + 8, D: 1, S: 2, Imm: 0x1ffe}, 0x5fff, "\xb2"},
		{api.Ins{Op: api.STA, D: 1, Imm: 0x4000}, 0x4000, "\xb2\xa1"},
		{api.Ins{Op: api.STA, D: 0, Imm: 0x5ffe}, 0x5ffe, "\x01\x00"},
		{api.Ins{Op: api.STAB, D: 1, Imm: 0x5fff}, 0x5fff, "\xb2"},
		{api.Ins{Op: api.STI, S: 2, Imm: 0x0fff, Aux: 0xc3d4}, 0x5000, "\xd4\xc3"},
		{api.Ins{Op: api.STI, S: 3, Imm: 0x600e, Aux: 0xc3d4}, 0x5ffe, "\xd4\xc3"},
	} {
		checkEffect(t, x.ins, s, setRam(x.at, x.want))
	}
}

func TestP4_5_AddressesOutsideOfRam(t *testing.T) {
	for at, x := range map[uint16]struct{ word, byte int }{
		0: {0, 0}, 0x1000: {0x1000, 0x1000}, 0x3ffe: {0x3ffe, 0x3ffe}, 0x3fff: {0x3fff, 0x3fff}, 0x4000: {-1, -1}, 0x5ffe: {-1, -1},
		0x5fff: {0x6000, -1}, 0x6000: {0x6000, 0x6000}, 0x8000: {0x8000, 0x8000}, 0xffff: {0xffff, 0xffff},
	} {
		s := changed(busy(), setPC(0x0123), setR(4, at+6))
		for _, ins := range []api.Ins{
			{Op: api.LD, S: 4, Imm: 0xfffa}, {Op: api.LD + 8, S: 4, Imm: 0xfffa}, {Op: api.LDA, Imm: at}, {Op: api.ST, S: 4, Imm: 0xfffa}, {Op: api.ST + 8, S: 4, Imm: 0xfffa}, {Op: api.STA, Imm: at}, {Op: api.STI, S: 4, Imm: 0xfffa},
		} {
			if x.word >= 0 {
				checkTrap(t, ins, s, api.Fault, uint16(x.word))
			} else if trap := checkLikeModel(t, "a word", imageOf(ins), someTape, s); trap.Kind != api.NoTrap {
				t.Errorf("%+v at %#x: trap %v", ins, at, trap)
			}
		}
		for _, ins := range []api.Ins{
			{Op: api.LDB, S: 4, Imm: 0xfffa}, {Op: api.LDB + 8, S: 4, Imm: 0xfffa}, {Op: api.LDAB, Imm: at}, {Op: api.STB, S: 4, Imm: 0xfffa}, {Op: api.STB + 8, S: 4, Imm: 0xfffa}, {Op: api.STAB, Imm: at},
		} {
			if x.byte >= 0 {
				checkTrap(t, ins, s, api.Fault, uint16(x.byte))
			} else if trap := checkLikeModel(t, "a byte", imageOf(ins), someTape, s); trap.Kind != api.NoTrap {
				t.Errorf("%+v at %#x: trap %v", ins, at, trap)
			}
		}
	}
}

func TestP4_5_Constants(t *testing.T) {
	for _, x := range []struct {
		bank, off  int
		word, byte int // negative: the Fault with this offset
	}{
		{1, 0, 0xc10b, 0x0b}, {1, 2, 0xc3c2, 0xc2}, {1, 0x0ffe, 0xcfce, 0xce}, {1, 0x0fff, -0x1000, 0xcf}, {1, 0x1000, -0x1000, -0x1000}, {1, 0xffff, -0xffff, -0xffff}, {1, 0xf000, -0xf000, -0xf000},
		{0, 0x0fff, -0x1000, 0x9a}, {0, 0x0200, 0x0234, 0x34}, {0, 0xf200, -0xf200, -0xf200}, {2, 0x0800, 0xd9d8, 0xd8}, {2, 0x0801, -0x0802, 0xd9}, {2, 0x0802, -0x0802, -0x0802},
		{3, 1, -1, -1}, {4, 7, -7, -7}, {63, 0x4000, -0x4000, -0x4000},
	} {
		for _, base := range []uint16{0, 5, 0x8000} {
			s := changed(busy(), setR(4, uint16(x.off)-base))
			for op, want := range map[int]int{api.LDC: x.word, api.LDCB: x.byte} {
				for _, d := range []int{4, 6} {
					ins := api.Ins{Op: op, D: d, S: 4, Bank: x.bank, Imm: base}
					if want < 0 {
						checkTrap(t, ins, s, api.Fault, uint16(-want))
					} else {
						checkEffect(t, ins, s, setR(d, uint16(want)))
					}
				}
			}
		}
	}
	// The first byte is missing before the second one.
	checkTrap(t, api.Ins{Op: api.LDC, D: 1, S: 2, Bank: 3, Imm: 0xfffd}, busy(), api.Fault, 0)
	// A bank may be longer than its offsets.
	for _, op := range []int{api.LDC, api.LDCB} {
		i := program(api.Ins{Op: op, D: 1, S: 2, Bank: 1, Imm: 0x1000})
		i.Banks = append(i.Banks, nops+"more")
		checkStep(t, "long bank", i, someTape, api.Snap{}, api.Snap{}, api.Trap{Kind: api.Fault, Info: 0x1000})
	}
}

func TestP4_6_PushAndPop(t *testing.T) {
	s := busy()
	checkEffect(t, api.Ins{Op: api.PUSH, D: 3}, s, setStack(append(numbered(6), 0x8004)...))
	checkEffect(t, api.Ins{Op: api.POP, D: 3}, s, setStack(numbered(5)...), setR(3, 22))
	checkEffect(t, api.Ins{Op: api.POP, D: 3}, changed(s, setStack(0x1234)), setStack(), setR(3, 0x1234))
	checkTrap(t, api.Ins{Op: api.POP, D: 3}, changed(s, setStack()), api.Stack, 0)
	checkEffect(t, api.Ins{Op: api.PUSH, D: 3}, changed(s, setStack(numbered(4095)...)), setStack(append(numbered(4095), 0x8004)...))
	checkTrap(t, api.Ins{Op: api.PUSH, D: 3}, changed(s, setStack(numbered(4096)...)), api.Stack, 0)
	// SP is that of the normal state.
	checkTrap(t, api.Ins{Op: api.PUSH, D: 3}, changed(s, setStack(numbered(5000)...), func(s *api.Snap) { s.S.SP = 3 }), api.Stack, 0)
	checkEffect(t, api.Ins{Op: api.PUSH, D: 3}, changed(s, setStack(5), func(s *api.Snap) { s.S.SP = 4096 }), setStack(5, 0x8004))
}

func TestP4_6_Frames(t *testing.T) {
	s := busy()
	checkEffect(t, api.Ins{Op: api.ENTER}, s, setStack(append(numbered(6), 4)...), setFP(7))
	checkEffect(t, api.Ins{Op: api.ENTER, Imm: 3}, s, setStack(append(numbered(6), 4, 0, 0, 0)...), setFP(7))
	checkEffect(t, api.Ins{Op: api.ENTER, Imm: 255}, changed(s, setStack(numbered(3840)...)), setStack(append(append(numbered(3840), 4), make([]uint16, 255)...)...), setFP(3841))
	checkTrap(t, api.Ins{Op: api.ENTER, Imm: 255}, changed(s, setStack(numbered(3841)...)), api.Stack, 0)
	checkEffect(t, api.Ins{Op: api.ENTER}, changed(s, setStack(numbered(4095)...)), setStack(append(numbered(4095), 4)...), setFP(4096))
	checkTrap(t, api.Ins{Op: api.ENTER}, changed(s, setStack(numbered(4096)...)), api.Stack, 0)
	checkEffect(t, api.Ins{Op: api.LEAVE}, s, setStack(numbered(3)...), setFP(16))
	checkEffect(t, api.Ins{Op: api.LEAVE}, changed(s, setFP(6)), setStack(numbered(5)...), setFP(22))
	checkEffect(t, api.Ins{Op: api.LEAVE}, changed(s, setFP(1)), setStack(), setFP(7))
	checkTrap(t, api.Ins{Op: api.LEAVE}, changed(s, setFP(0)), api.Stack, 0)
	checkTrap(t, api.Ins{Op: api.LEAVE}, changed(s, setFP(7)), api.Stack, 0)
	checkTrap(t, api.Ins{Op: api.LEAVE}, changed(s, setFP(0xffff)), api.Stack, 0)
	checkTrap(t, api.Ins{Op: api.LEAVE}, changed(s, setFP(0), setStack()), api.Stack, 0)
}

// The zeros of ENTER replace words that were on the stack before.
func TestP4_6_EnterPushesZerosAgain(t *testing.T) {
	i := program(api.Ins{Op: api.DROP, Imm: 5}, api.Ins{Op: api.ENTER, Imm: 4}, api.Ins{Op: api.HLT})
	s, _ := modelRun(i, api.Tape{}, busy(), 2)
	if want := []uint16{7, 4, 0, 0, 0, 0}; !slices.Equal(s.Stack, want) {
		t.Fatalf("the model has %v", s.Stack)
	}
	checkRun(t, i, api.Tape{}, busy(), 10)
}

func TestP4_6_Drop(t *testing.T) {
	for imm := range uint16(7) {
		checkEffect(t, api.Ins{Op: api.DROP, Imm: imm}, busy(), setStack(numbered(6-int(imm))...))
	}
	checkTrap(t, api.Ins{Op: api.DROP, Imm: 7}, busy(), api.Stack, 0)
	checkTrap(t, api.Ins{Op: api.DROP, Imm: 255}, changed(busy(), setStack(numbered(254)...)), api.Stack, 0)
	checkEffect(t, api.Ins{Op: api.DROP, Imm: 255}, changed(busy(), setStack(numbered(255)...)), setStack())
	checkEffect(t, api.Ins{Op: api.DROP}, changed(busy(), setStack()), setStack())
}

func TestP4_6_WordsOfTheStack(t *testing.T) {
	for _, x := range []struct {
		load, store int
		imm, fp     uint16
		word        int // the number of the word, or -1
	}{
		{api.LDS, api.STS, 0, 4, 5}, {api.LDS, api.STS, 1, 4, 4}, {api.LDS, api.STS, 5, 4, 0}, {api.LDS, api.STS, 6, 4, -1}, {api.LDS, api.STS, 255, 4, -1},
		{api.LDF, api.STF, 0, 4, 4}, {api.LDF, api.STF, 1, 4, 5}, {api.LDF, api.STF, 2, 4, -1}, {api.LDF, api.STF, 127, 4, -1},
		{api.LDF, api.STF, 0xffff, 4, 3}, {api.LDF, api.STF, 0xfffc, 4, 0}, {api.LDF, api.STF, 0xfffb, 4, -1}, {api.LDF, api.STF, 0xff80, 4, -1}, {api.LDF, api.STF, 0xff80, 130, 2},
		{api.LDF, api.STF, 0, 0, 0}, {api.LDF, api.STF, 0xffff, 0, -1}, {api.LDF, api.STF, 127, 0xff85, -1}, {api.LDF, api.STF, 1, 0xffff, -1}, {api.LDF, api.STF, 0, 6, -1}, {api.LDF, api.STF, 0, 0xffff, -1},
	} {
		s := changed(busy(), setFP(x.fp))
		load, store := api.Ins{Op: x.load, D: 3, Imm: x.imm}, api.Ins{Op: x.store, D: 3, Imm: x.imm}
		if x.word < 0 {
			checkTrap(t, load, s, api.Stack, 0)
			checkTrap(t, store, s, api.Stack, 0)
			continue
		}
		stored := numbered(6)
		stored[x.word] = 0x8004
		checkEffect(t, load, s, setR(3, numbered(6)[x.word]))
		checkEffect(t, store, s, setStack(stored...))
	}
	for _, ins := range []api.Ins{{Op: api.LDS}, {Op: api.STS}, {Op: api.LDF}, {Op: api.STF}, {Op: api.LDS, Imm: 1}} {
		checkTrap(t, ins, changed(busy(), setStack(), setFP(0)), api.Stack, 0)
	}
}

func TestP4_7_ConditionalJumps(t *testing.T) {
	for cc := range 14 {
		for flags := range uint16(16) {
			short, long := api.Ins{Op: api.JCC + cc, Imm: 0xff80}, api.Ins{Op: api.JCC + cc + 0x10, Imm: 0x4321}
			shortTo, longTo := uint16(0x0125), uint16(0x0126)
			if modelCond(cc, flags) {
				shortTo, longTo = 0x00a5, 0x4447
			}
			for _, f := range []uint16{flags, flags + 0xfff0} {
				checkEffect(t, short, changed(busy(), setF(f)), setPC(shortTo))
				checkEffect(t, long, changed(busy(), setF(f)), setPC(longTo))
			}
		}
	}
}

func TestP4_7_JumpsAndCalls(t *testing.T) {
	s := changed(busy(), setBank(0x20007))
	pushed := setStack(append(numbered(6), 7, 0x0126)...)
	pushedFar := setStack(append(numbered(6), 7, 0x0127)...)
	checkEffect(t, api.Ins{Op: api.NOP}, s)
	checkEffect(t, api.Ins{Op: api.JMP, Imm: 0x7f}, s, setPC(0x01a4))
	checkEffect(t, api.Ins{Op: api.JMP, Imm: 0xfffe}, s, setPC(0x0123))
	checkEffect(t, api.Ins{Op: api.JMPW, Imm: 0xfed9}, s, setPC(0xffff))
	checkEffect(t, api.Ins{Op: api.JMPW, Imm: 0x1000}, s, setPC(0x1126))
	checkEffect(t, api.Ins{Op: api.CALL, Imm: 0x1000}, s, setPC(0x1126), pushed)
	checkEffect(t, api.Ins{Op: api.CALL, Imm: 0xffff}, s, setPC(0x0125), pushed)
	checkEffect(t, api.Ins{Op: api.CALL}, changed(s, setBank(-1)), setStack(append(numbered(6), 0xffff, 0x0126)...))
	for addr, bank := range map[uint16]int{0: 0x20007, 0x0fff: 0x20007, 0x1000: 63, 0x1fff: 63, 0x2000: 0x20007, 0xffff: 0x20007} {
		checkEffect(t, api.Ins{Op: api.JMPF, Bank: 63, Imm: addr}, s, setPC(addr), setBank(bank))
		checkEffect(t, api.Ins{Op: api.CALLF, Bank: 63, Imm: addr}, s, setPC(addr), setBank(bank), pushedFar)
	}
	for _, ins := range []api.Ins{{Op: api.CALL}, {Op: api.CALLF, Bank: 5, Imm: 0x1000}} {
		checkTrap(t, ins, changed(s, setStack(numbered(4096)...)), api.Stack, 0)
		checkTrap(t, ins, changed(s, setStack(numbered(4095)...)), api.Stack, 0)
	}
	checkEffect(t, api.Ins{Op: api.CALL}, changed(s, setStack(numbered(4094)...)), setStack(append(numbered(4094), 7, 0x0126)...))
	checkTrap(t, api.Ins{Op: api.HLT}, s, api.Halt, 0)
}

func TestP4_7_Return(t *testing.T) {
	checkEffect(t, api.Ins{Op: api.RET}, busy(), setStack(numbered(4)...), setPC(22), setBank(19))
	for bank, want := range map[uint16]int{0: 0, 63: 63, 64: 0, 65: 1, 0xffff: 63, 0x8000: 0} {
		checkEffect(t, api.Ins{Op: api.RET}, changed(busy(), setStack(bank, 0xffff)), setStack(), setPC(0xffff), setBank(want))
	}
	checkTrap(t, api.Ins{Op: api.RET}, changed(busy(), setStack(5)), api.Stack, 0)
	checkTrap(t, api.Ins{Op: api.RET}, changed(busy(), setStack()), api.Stack, 0)
}

func TestP4_7_Tables(t *testing.T) {
	for _, x := range []struct {
		table, index uint16
		bank         int
		to           int // negative: the Fault with this address
	}{
		{0x0200, 0, 1, 0x0234}, {0x0200, 1, 1, 0x1678}, {0x0200, 2, 1, 0xffff}, {0x0200, 3, 1, 0}, {0x0fff, 0, 1, 0x0b9a}, {0x0fff, 0, 4, -0x1000}, {0x0fff, 0, -1, -0x1000},
		{0x0fff, 0, 64, -0x1000}, {0x1000, 0, 1, 0xc10b}, {0x1000, 1, 1, 0xc3c2}, {0x1000, 1, 4, -0x1002}, {0x1ffe, 0, 1, 0xcfce}, {0x1fff, 0, 1, -0x2000}, {0x1ffe, 1, 1, -0x2000}, {0x2000, 0, 1, -0x2000},
		{0x1800, 0, 2, 0xd9d8}, {0x1800, 1, 2, -0x1802}, {0x1801, 0, 2, -0x1802}, {0x1000, 5, 3, -0x100a}, {0x4000, 0, 1, -0x4000}, {0xffff, 0, 1, -0xffff}, {0xfffe, 1, 1, 0}, {0xfe02, 0x01ff, 1, 0x0234},
	} {
		s := changed(busy(), setR(5, x.index), setBank(x.bank))
		list := []api.Ins{{Op: api.JMPI, D: 5, Imm: x.table}}
		if x.index < 255 {
			list = append(list, api.Ins{Op: api.JTAB, D: 5, Bank: 255, Imm: 0x4000, Aux: x.table}, api.Ins{Op: api.JTAB, D: 5, Bank: int(x.index) + 1, Imm: 0x4000, Aux: x.table})
		}
		for _, ins := range list {
			if x.to < 0 {
				checkTrap(t, ins, s, api.Fault, uint16(-x.to))
			} else {
				checkEffect(t, ins, s, setPC(uint16(x.to)))
			}
		}
	}
}

func TestP4_7_TableLimits(t *testing.T) {
	for _, x := range []struct {
		index uint16
		limit int
		to    uint16
	}{
		{0, 1, 0x0234}, {1, 1, 0x012e}, {1, 2, 0x1678}, {2, 2, 0x012e}, {254, 255, 0}, {255, 255, 0x012e}, {256, 255, 0x012e}, {0x0101, 255, 0x012e}, {0xffff, 255, 0x012e}, {0x8000, 1, 0x012e},
	} {
		checkEffect(t, api.Ins{Op: api.JTAB, D: 5, Bank: x.limit, Imm: 4, Aux: 0x0200}, changed(busy(), setR(5, x.index)), setPC(x.to))
	}
	// The table of another index than those below the limit is not read; the default wraps around.
	checkEffect(t, api.Ins{Op: api.JTAB, D: 5, Bank: 1, Imm: 0xfed5, Aux: 0x4000}, changed(busy(), setR(5, 1)), setPC(0xffff))
	// Twice the index wraps around.
	checkEffect(t, api.Ins{Op: api.JMPI, D: 5, Imm: 0x0200}, changed(busy(), setR(5, 0x8001)), setPC(0x1678))
}

func TestP4_8_In(t *testing.T) {
	for _, x := range []struct {
		inputs, after int
		want          uint16
	}{
		{0, 1, 0x1111}, {1, 2, 0x2222}, {2, 2, 0}, {3, 3, 0}, {math.MaxInt, math.MaxInt, 0}, {-1, 1, 0x1111}, {math.MinInt, 1, 0x1111},
	} {
		s := changed(busy(), func(s *api.Snap) { s.S.Inputs = x.inputs })
		for _, port := range []uint16{1, 2, 255} {
			checkEffect(t, api.Ins{Op: api.IN, D: 3, Imm: port}, s, setR(3, x.want), func(s *api.Snap) { s.S.Inputs = x.after })
		}
		checkEffect(t, api.Ins{Op: api.IN, D: 3}, s, setR(3, 1))
	}
	for bank, want := range map[int]uint16{0: 0, 63: 63, 64: 64, 0xffff: 0xffff, 0x10005: 5, -1: 0xffff, math.MinInt: 0} {
		checkEffect(t, api.Ins{Op: api.IN, D: 3}, changed(busy(), setBank(bank)), setR(3, want))
	}
}

// A tape without words leaves a negative number of inputs as it is: it is not used.
func TestP4_8_EmptyTape(t *testing.T) {
	for _, op := range []api.Ins{{Op: api.IN, D: 3, Imm: 1}, {Op: api.POLL}} {
		for _, read := range []int{0, 5, -5, math.MinInt, math.MaxInt} {
			i, s := imageOf(op), changed(busy(), setPC(0x0123), func(s *api.Snap) { s.S.Inputs, s.S.Polls = read, read })
			want := modelNormal(s)
			want.S.PC += 3
			if op.Op == api.POLL {
				want.S.PC -= 2
			} else {
				want.S.R[3] = 0
			}
			want.S.Steps++
			checkStep(t, fmt.Sprintf("%+v after %d", op, read), i, api.Tape{}, s, want, api.Trap{})
			checkStep(t, fmt.Sprintf("%+v after %d", op, read), i, api.Tape{In: []uint16{}, Irq: []byte{}}, s, want, api.Trap{})
		}
	}
}

func TestP4_8_Out(t *testing.T) {
	for _, port := range []uint16{1, 2, 255} {
		event := api.Event{Port: port, Value: 0x8004}
		checkEffect(t, api.Ins{Op: api.OUT, D: 3, Imm: port}, busy(), func(s *api.Snap) { s.Out = append(slices.Clone(s.Out), event) })
		checkEffect(t, api.Ins{Op: api.OUT, D: 3, Imm: port}, changed(busy(), func(s *api.Snap) { s.Out = nil }), func(s *api.Snap) { s.Out = []api.Event{event} })
	}
	for w, want := range map[uint16]int{0: 0, 5: 5, 63: 63, 64: 0, 0xffff: 63, 0x8041: 1} {
		checkEffect(t, api.Ins{Op: api.OUT, D: 3}, changed(busy(), setR(3, w)), setBank(want))
	}
}

// interrupted is what POLL pushes on the stack of busy.
func interrupted(bank uint16, stack []uint16) func(*api.Snap) {
	return setStack(append(stack, bank, 0x0124, 0xfff6, 4, 1, 0x4002, 3, 0x8004, 5, 6, 0xfff7, 8)...)
}

func setPolls(polls int) func(*api.Snap) { return func(s *api.Snap) { s.S.Polls = polls } }

func TestP4_8_Poll(t *testing.T) {
	poll := api.Ins{Op: api.POLL}
	checkEffect(t, poll, busy(), setPolls(2), setPC(0x0300), interrupted(1, numbered(6)))
	checkEffect(t, poll, changed(busy(), setBank(-2)), setPolls(2), setPC(0x0300), interrupted(0xfffe, numbered(6)))
	checkEffect(t, poll, changed(busy(), setPolls(0)), setPolls(1))
	checkEffect(t, poll, changed(busy(), setPolls(-9)), setPolls(1))
	checkEffect(t, poll, changed(busy(), setPolls(2)))
	checkEffect(t, poll, changed(busy(), setPolls(math.MaxInt)))
	checkEffect(t, poll, changed(busy(), setStack(numbered(4084)...)), setPolls(2), setPC(0x0300), interrupted(1, numbered(4084)))
	for _, used := range []int{4085, 4090, 4095, 4096} {
		checkTrap(t, poll, changed(busy(), setStack(numbered(used)...)), api.Stack, 0)
		checkEffect(t, poll, changed(busy(), setStack(numbered(used)...), setPolls(0)), setPolls(1))
	}
}

func TestP4_8_PollAnyByte(t *testing.T) {
	for _, pending := range []byte{1, 2, 0x80, 0xff} {
		for _, polls := range []int{0, -1, math.MinInt} {
			s := changed(busy(), setPC(0x0123), setPolls(polls))
			want := changed(modelNormal(s), setPolls(1), setPC(0x0300), interrupted(1, numbered(6)))
			want.S.SP += 12
			want.S.Steps++
			checkStep(t, fmt.Sprintf("POLL of %d", pending), imageOf(api.Ins{Op: api.POLL}), api.Tape{Irq: []byte{pending}}, s, want, api.Trap{})
		}
	}
}

// Without a handler the element is read, and nothing is pushed; the handler may be anywhere else.
func TestP4_8_Vector(t *testing.T) {
	s := changed(busy(), setPC(0x0123))
	for _, vector := range []uint16{0, 1, 0x0fff, 0x1000, 0xffff} {
		i := imageOf(api.Ins{Op: api.POLL})
		i.Vector = vector
		want := changed(modelNormal(s), setPolls(2), setPC(0x0124))
		want.S.Steps++
		if vector != 0 {
			want = changed(want, setPC(vector), interrupted(1, numbered(6)))
			want.S.SP += 12
		}
		checkStep(t, fmt.Sprintf("vector %#x", vector), i, someTape, s, want, api.Trap{})
	}
}

func TestP4_8_ReturnFromInterrupt(t *testing.T) {
	saved := []uint16{99, 0xffc5, 0x1ff0, 0xabcd, 0x7777, 10, 11, 12, 13, 14, 15, 16, 17}
	restored := func(s *api.Snap) {
		s.S.R = [8]uint16{10, 11, 12, 13, 14, 15, 16, 17}
		s.S.FP, s.S.F, s.S.PC, s.S.Bank = 0x7777, 0x000d, 0x1ff0, 5
	}
	checkEffect(t, api.Ins{Op: api.IRET}, changed(busy(), setStack(saved...)), setStack(99), restored)
	checkEffect(t, api.Ins{Op: api.IRET}, changed(busy(), setStack(saved[1:]...)), setStack(), restored)
	for used := range 12 {
		checkTrap(t, api.Ins{Op: api.IRET}, changed(busy(), setStack(saved[:used]...)), api.Stack, 0)
	}
}

// An interrupt whose handler changes everything that is saved leaves no trace but its events.
func TestP4_8_InterruptAndBack(t *testing.T) {
	handler := text(
		api.Ins{Op: api.OUT, D: 1, Imm: 77}, api.Ins{Op: api.MOV + 0x20, D: 1, Imm: 0x1234}, api.Ins{Op: api.NEG, D: 7}, api.Ins{Op: api.OUT, D: 2}, api.Ins{Op: api.ENTER, Imm: 2}, api.Ins{Op: api.POP, D: 3},
		api.Ins{Op: api.POP, D: 3}, api.Ins{Op: api.POP, D: 4}, api.Ins{Op: api.IRET},
	)
	i := api.Image{Banks: []string{bankWith(map[int]string{0: text(api.Ins{Op: api.POLL}, api.Ins{Op: api.HLT}), 0x0080: handler})}, Vector: 0x0080}
	s := changed(busy(), setF(9), setPC(0))
	want := modelNormal(s)
	want.S.PC, want.S.Polls, want.S.Steps = 1, 2, s.S.Steps+10
	want.Out = append(want.Out, api.Event{Port: 77, Value: 0x4002})
	if got := checkRun(t, i, someTape, s, 100); !equal(got, want) {
		t.Errorf("%s, want\n%s", describe(got), describe(want))
	}
}
