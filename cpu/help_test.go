package cpu_test

import (
	"fmt"
	"math"
	"slices"
	"strings"
	"testing"

	"vellum/api"
	"vellum/cpu"
	"vellum/isa"
)

var zeroBank = strings.Repeat("\x00", api.BankSize)

// words are at the borders of what instructions accept and do.
var words = []uint16{
	0, 1, 2, 3, 5, 15, 16, 17, 63, 64, 65, 0x7f, 0x80, 0xff, 0x100, 0x1234, 0x0ffd, 0x0ffe, 0x0fff, 0x1000, 0x1001, 0x1ffe, 0x1fff, 0x2000,
	0x3ffe, 0x3fff, 0x4000, 0x4001, 0x4abc, 0x5ffd, 0x5ffe, 0x5fff, 0x6000, 0x7fff, 0x8000, 0x8001, 0xaaaa, 0xc000, 0xff7f, 0xff80, 0xfffe, 0xffff,
}

// text returns the encoding of instructions, whose sizes are filled in.
func text(list ...api.Ins) string {
	var code strings.Builder
	for _, ins := range list {
		ins.Size = isa.Size(byte(ins.Op))
		s, err := isa.Encode(ins)
		if err != api.OK {
			panic(fmt.Sprintf("the test has a wrong instruction: %+v", ins))
		}
		code.WriteString(s)
	}
	return code.String()
}

// bankWith returns a bank of zeros but for the bytes at some offsets.
func bankWith(parts map[int]string) string {
	b := []byte(zeroBank)
	for off, s := range parts {
		copy(b[off:], s)
	}
	return string(b)
}

// program returns an image with one bank that begins with instructions.
func program(list ...api.Ins) api.Image {
	return api.Image{Banks: []string{bankWith(map[int]string{0: text(list...)})}}
}

// changed returns a state after some changes.
func changed(s api.Snap, changes ...func(*api.Snap)) api.Snap {
	s.Stack = slices.Clone(s.Stack)
	for _, change := range changes {
		change(&s)
	}
	return s
}

func setPC(pc uint16) func(*api.Snap)      { return func(s *api.Snap) { s.S.PC = pc } }
func setBank(bank int) func(*api.Snap)     { return func(s *api.Snap) { s.S.Bank = bank } }
func setF(f uint16) func(*api.Snap)        { return func(s *api.Snap) { s.S.F = f } }
func setFP(fp uint16) func(*api.Snap)      { return func(s *api.Snap) { s.S.FP = fp } }
func setR(n int, w uint16) func(*api.Snap) { return func(s *api.Snap) { s.S.R[n] = w } }
func setStack(stack ...uint16) func(*api.Snap) {
	return func(s *api.Snap) { s.Stack = stack }
}

// setRam stores bytes at an address.
func setRam(addr int, bytes string) func(*api.Snap) {
	return func(s *api.Snap) {
		ram := []byte(modelNormal(*s).Ram)
		copy(ram[addr-0x4000:], bytes)
		s.Ram = string(ram)
	}
}

// numbered returns n different words.
func numbered(n int) []uint16 {
	stack := make([]uint16, n)
	for k := range stack {
		stack[k] = uint16(k*3 + 7)
	}
	return stack
}

// busy is a state, also of the parts that most instructions leave alone, that is not normal but for its SP.
func busy() api.Snap {
	s := api.Snap{
		S:     api.State{R: [8]uint16{1, 0x4002, 3, 0x8004, 5, 6, 0xfff7, 8}, SP: 6, FP: 4, F: 0xfff6, Bank: 1, Steps: 41, Inputs: 1, Polls: 1},
		Stack: numbered(6),
		Out:   []api.Event{{Port: 1, Value: 2}, {Port: 255, Value: 0xffff}},
	}
	ram := make([]byte, 8000)
	for k := range ram {
		ram[k] = byte(k*5 + k/256)
	}
	s.Ram = string(ram)
	return s
}

func equal(a, b api.Snap) bool {
	return a.S == b.S && a.Ram == b.Ram && slices.Equal(a.Stack, b.Stack) && slices.Equal(a.Out, b.Out)
}

// describe returns a state without RAM.
func describe(s api.Snap) string {
	return fmt.Sprintf("%+v, %d bytes, stack %v, out %v", s.S, len(s.Ram), s.Stack, s.Out)
}

func checkNormal(t *testing.T, what string, s api.Snap) {
	t.Helper()
	if len(s.Ram) != 8192 || len(s.Stack) > 4096 || int(s.S.SP) != len(s.Stack) {
		t.Fatalf("%s: the state is not normal: %s", what, describe(s))
	}
}

// checkStep compares Step with a state and a trap; it has to return the normal form of s if there is a trap.
func checkStep(t *testing.T, what string, i api.Image, tape api.Tape, s, want api.Snap, wantTrap api.Trap) {
	t.Helper()
	got, trap := cpu.Step(i, tape, s)
	if trap.Kind != api.NoTrap {
		want = modelNormal(s)
	}
	if trap != wantTrap {
		t.Fatalf("%s: trap %v, want %v", what, trap, wantTrap)
	}
	checkNormal(t, what, got)
	if !equal(got, want) {
		t.Fatalf("%s:\n%s, want\n%s (RAM equal: %v)", what, describe(got), describe(want), got.Ram == want.Ram)
	}
}

// checkLikeModel compares Step with the model.
func checkLikeModel(t *testing.T, what string, i api.Image, tape api.Tape, s api.Snap) api.Trap {
	t.Helper()
	want, wantTrap := modelStep(i, tape, s)
	checkStep(t, what, i, tape, s, want, wantTrap)
	return wantTrap
}

// checkEffect checks one instruction at address 0x0123 of bank 0: s becomes the normal state with the changes, and with the next PC and Steps.
func checkEffect(t *testing.T, ins api.Ins, s api.Snap, changes ...func(*api.Snap)) {
	t.Helper()
	i, s := imageOf(ins), changed(s, setPC(0x0123))
	want := modelNormal(s)
	want.S.PC += uint16(isa.Size(byte(ins.Op)))
	want.S.Steps++
	want = changed(want, changes...)
	want.S.SP = uint16(len(want.Stack))
	checkStep(t, fmt.Sprintf("%+v", ins), i, someTape, s, want, api.Trap{})
}

// checkTrap checks that one instruction at address 0x0123 of bank 0 raises a trap.
func checkTrap(t *testing.T, ins api.Ins, s api.Snap, kind int, info uint16) {
	t.Helper()
	checkStep(t, fmt.Sprintf("%+v", ins), imageOf(ins), someTape, changed(s, setPC(0x0123)), api.Snap{}, api.Trap{Kind: kind, Info: info})
}

// someTape has two inputs and two elements for POLL; busy has read the first ones.
var someTape = api.Tape{In: []uint16{0x1111, 0x2222}, Irq: []byte{0, 7}}

// imageOf has an instruction at address 0x0123 of bank 0, constants and tables in banks 1 to 3, and a handler.
func imageOf(ins api.Ins) api.Image {
	return api.Image{
		Banks: []string{
			bankWith(map[int]string{0x0123: text(ins), 0x0200: "\x34\x02\x78\x16\xff\xff", 0x0fff: "\x9a"}),
			bankWith(map[int]string{0: "\x0b\xc1\xc2\xc3", 0x0ffe: "\xce\xcf"}),
			zeroBank[:0x0800] + "\xd8\xd9",
			"",
		},
		Vector: 0x0300,
	}
}

// random is a sequence of numbers that is the same in each run.
type random uint64

func (r *random) next() uint64 {
	*r += 0x9e3779b97f4a7c15
	x := uint64(*r)
	x = (x ^ x>>30) * 0xbf58476d1ce4e5b9
	x = (x ^ x>>27) * 0x94d049bb133111eb
	return x ^ x>>31
}

func (r *random) below(n int) int { return int(r.next() % uint64(n)) }

func pick[T any](r *random, list ...T) T { return list[r.below(len(list))] }

func (r *random) word() uint16 {
	switch r.below(6) {
	case 0:
		return uint16(r.next())
	case 1:
		return uint16(r.below(12))
	case 2:
		return pick(r, 0, 0x3ffe+uint16(r.below(0x2004)))
	}
	return pick(r, words...)
}

// ops are all operations of valid instructions.
var ops = allOps()

func allOps() []int {
	var list []int
	for op := range 256 {
		if isa.Size(byte(op)) > 0 {
			list = append(list, op)
		}
	}
	return list
}

// instruction returns a valid instruction.
func (r *random) instruction(op int) api.Ins {
	for {
		ins := api.Ins{Op: op, D: r.below(8), S: r.below(8), Imm: r.word(), Aux: r.word(), Bank: r.below(64), Size: isa.Size(byte(op))}
		switch r.below(4) {
		case 0:
			ins.S = 0
		case 1:
			ins.D = 0
		}
		for _, try := range []api.Ins{
			ins, {Op: op, D: ins.D, S: ins.S, Imm: ins.Imm}, {Op: op, D: ins.D, Imm: ins.Imm}, {Op: op, D: ins.D, Imm: ins.Imm, Bank: ins.Bank, Aux: ins.Aux}, {Op: op, Imm: ins.Imm, Bank: ins.Bank},
			{Op: op, S: ins.S, Imm: ins.Imm, Aux: ins.Aux}, {Op: op, D: ins.D, S: ins.S, Imm: ins.Imm, Bank: ins.Bank}, {Op: op, D: ins.D, S: ins.S}, {Op: op, D: ins.D}, {Op: op, Imm: ins.Imm}, {Op: op},
		} {
			try.Size = ins.Size
			if isa.Valid(try) {
				return try
			}
		}
	}
}

// bank returns a bank that is full of instructions, or of numbers, and sometimes has another size.
func (r *random) bank() string {
	var b strings.Builder
	for b.Len() < api.BankSize {
		if r.below(40) == 0 {
			b.WriteByte(byte(r.next()))
		} else {
			b.WriteString(text(r.instruction(pick(r, ops...))))
		}
	}
	switch r.below(6) {
	case 0:
		return b.String()[:r.below(api.BankSize)]
	case 1:
		return b.String()
	}
	return b.String()[:api.BankSize]
}

func (r *random) image() api.Image {
	i := api.Image{Entry: r.word(), Vector: pick(r, r.word(), 0x0010)}
	for range r.below(5) {
		i.Banks = append(i.Banks, r.bank())
	}
	if r.below(8) == 0 {
		for range 66 {
			i.Banks = append(i.Banks, "\x10\x03\x02\x01\x02")
		}
	}
	return i
}

func (r *random) tape() api.Tape {
	var t api.Tape
	for range r.below(4) {
		t.In = append(t.In, r.word())
	}
	for range r.below(4) {
		t.Irq = append(t.Irq, pick(r, 0, 1, byte(r.next())))
	}
	return t
}

var someRam = busy().Ram

func (r *random) snap() api.Snap {
	s := api.Snap{Ram: pick(r, someRam, someRam, "", someRam+someRam, someRam[:8000]+"abcdefgh"), Stack: numbered(pick(r, r.below(2), r.below(5), r.below(30), 11+r.below(3), r.below(300), 4077+r.below(20), 4096+r.below(2)))}
	for k := range s.S.R {
		s.S.R[k] = r.word()
	}
	s.S.PC = pick(r, uint16(r.below(0x2000)), uint16(r.below(0x2000)), r.word(), 0x0ffc+uint16(r.below(5)), 0x1ffc+uint16(r.below(5)))
	s.S.SP = pick(r, uint16(len(s.Stack)), r.word())
	s.S.FP = pick(r, uint16(r.below(len(s.Stack)+3)), r.word())
	s.S.F = pick(r, uint16(r.below(16)), r.word())
	s.S.Bank = pick(r, r.below(5), r.below(5), r.below(80)-5, math.MinInt, math.MaxInt)
	s.S.Steps = pick(r, 0, r.below(1000), -1, math.MaxInt, math.MinInt)
	s.S.Inputs = pick(r, 0, r.below(5), -1, math.MinInt, math.MaxInt)
	s.S.Polls = pick(r, 0, r.below(5), -1, math.MinInt, math.MaxInt)
	for range r.below(3) {
		s.Out = append(s.Out, api.Event{Port: r.word(), Value: r.word()})
	}
	return s
}

// put replaces bytes of an image at the PC of a state, as far as they exist.
func put(i api.Image, s api.State, code string) api.Image {
	bank, off := s.Bank, int(s.PC)%0x1000
	if s.PC < 0x1000 {
		bank = 0
	}
	if bank < 0 || bank >= len(i.Banks) || off >= len(i.Banks[bank]) {
		return i
	}
	b := []byte(i.Banks[bank])
	copy(b[off:], code)
	i.Banks = slices.Clone(i.Banks)
	i.Banks[bank] = string(b)
	return i
}

// checkRun compares Run with the model.
func checkRun(t *testing.T, i api.Image, tape api.Tape, s api.Snap, most int) api.Snap {
	t.Helper()
	want, wantTrap := modelRun(i, tape, s, most)
	got, trap := cpu.Run(i, tape, s, most)
	checkNormal(t, "Run", got)
	if trap != wantTrap || !equal(got, want) {
		t.Fatalf("Run from %+v, at most %d: trap %v, want %v,\n%s, want\n%s", s.S, most, trap, wantTrap, describe(got), describe(want))
	}
	return got
}
