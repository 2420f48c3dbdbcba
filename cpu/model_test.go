package cpu_test

import (
	"slices"
	"strings"

	"vellum/api"
	"vellum/isa"
)

// model executes one instruction on a copy of a state, with numbers of type int, and remembers the first trap. It
// calculates without package word, and finds code bytes without package image.
type model struct {
	i    api.Image
	t    api.Tape
	s    api.State
	ram  []byte
	st   []int
	out  []api.Event
	trap api.Trap
}

// modelNormal makes a state normal.
func modelNormal(s api.Snap) api.Snap {
	s.Ram = (s.Ram + strings.Repeat("\x00", 8192))[:8192]
	if len(s.Stack) > 4096 {
		s.Stack = s.Stack[:4096]
	}
	s.Stack = slices.Clone(s.Stack)
	s.S.SP = uint16(len(s.Stack))
	s.Out = slices.Clone(s.Out)
	return s
}

func modelLoad(i api.Image, t api.Tape, s api.Snap) *model {
	s = modelNormal(s)
	m := &model{i: i, t: t, s: s.S, ram: []byte(s.Ram), st: make([]int, len(s.Stack)), out: s.Out}
	for k, w := range s.Stack {
		m.st[k] = int(w)
	}
	return m
}

func (m *model) snap() api.Snap {
	s := api.Snap{S: m.s, Ram: string(m.ram), Stack: make([]uint16, len(m.st)), Out: m.out}
	for k, w := range m.st {
		s.Stack[k] = uint16(w)
	}
	s.S.SP = uint16(len(s.Stack))
	return s
}

func modelStep(i api.Image, t api.Tape, s api.Snap) (api.Snap, api.Trap) {
	m := modelLoad(i, t, s)
	m.step()
	if m.trap.Kind != 0 {
		return modelNormal(s), m.trap
	}
	return m.snap(), m.trap
}

// modelRun repeats modelStep as P4.9 says.
func modelRun(i api.Image, t api.Tape, s api.Snap, most int) (api.Snap, api.Trap) {
	s = modelNormal(s)
	for done := 0; done < most; done++ {
		var trap api.Trap
		if s, trap = modelStep(i, t, s); trap.Kind != 0 {
			return s, trap
		}
	}
	return s, api.Trap{Kind: api.Budget}
}

func (m *model) fail(kind int, info int) {
	if m.trap.Kind == 0 {
		m.trap = api.Trap{Kind: kind, Info: uint16(info)}
	}
}

func modulo(n, k int) int { return (n%k + k) % k }

// codeByte returns the byte at a code address, or -1.
func (m *model) codeByte(addr int) int {
	bank, off := 0, addr
	if addr >= 0x1000 {
		bank, off = m.s.Bank, addr-0x1000
	}
	if off > 0xfff || bank < 0 || bank > 63 || bank >= len(m.i.Banks) || off >= len(m.i.Banks[bank]) {
		return -1
	}
	return int(m.i.Banks[bank][off])
}

// codeWord returns a word of two code bytes.
func (m *model) codeWord(addr int) uint16 {
	second := modulo(addr+1, 65536)
	low, high := m.codeByte(addr), m.codeByte(second)
	if low < 0 {
		m.fail(api.Fault, addr)
	}
	if high < 0 {
		m.fail(api.Fault, second)
	}
	return uint16(low + 256*high)
}

func (m *model) step() {
	pc := int(m.s.PC)
	if pc == 0xffff {
		m.fail(api.Return, 0)
		return
	}
	first := m.codeByte(pc)
	if first < 0 {
		m.fail(api.Fault, pc)
		return
	}
	size := isa.Size(byte(first))
	if size == 0 {
		m.fail(api.Illegal, 0)
		return
	}
	var code []byte
	for addr := pc; addr < pc+size; addr++ {
		if m.codeByte(addr) < 0 || pc < 0x1000 && addr >= 0x1000 {
			m.fail(api.Fault, addr)
			return
		}
		code = append(code, byte(m.codeByte(addr)))
	}
	ins, err := isa.Decode(string(code))
	if err != api.OK {
		m.fail(api.Illegal, 0)
		return
	}
	m.s.PC = uint16(pc + size)
	m.s.Steps = int(uint64(m.s.Steps) + 1)
	m.execute(ins)
}

func (m *model) push(n int) {
	if len(m.st) == 4096 {
		m.fail(api.Stack, 0)
		return
	}
	m.st = append(m.st, modulo(n, 65536))
}

func (m *model) pop() uint16 {
	if len(m.st) == 0 {
		m.fail(api.Stack, 0)
		return 0
	}
	top := m.st[len(m.st)-1]
	m.st = m.st[:len(m.st)-1]
	return uint16(top)
}

// ramByte returns the index in RAM of the byte at an address.
func (m *model) ramByte(addr int) int {
	if addr < 0x4000 || addr > 0x5fff {
		m.fail(api.Fault, addr)
		return 0
	}
	return addr - 0x4000
}

func (m *model) load(addr, size int) uint16 {
	n := int(m.ram[m.ramByte(addr)])
	if size == 2 {
		n += 256 * int(m.ram[m.ramByte(modulo(addr+1, 65536))])
	}
	return uint16(n)
}

func (m *model) store(addr, size int, n uint16) {
	m.ram[m.ramByte(addr)] = byte(n % 256)
	if size == 2 {
		m.ram[m.ramByte(modulo(addr+1, 65536))] = byte(n / 256)
	}
}

func (m *model) constant(bank, off, size int) uint16 {
	n, factor := 0, 1
	for k := range size {
		at := modulo(off+k, 65536)
		if at > 4095 || bank >= len(m.i.Banks) || at >= len(m.i.Banks[bank]) {
			m.fail(api.Fault, at)
			return 0
		}
		n += factor * int(m.i.Banks[bank][at])
		factor = 256
	}
	return uint16(n)
}

// word returns a pointer to a word of the stack.
func (m *model) word(n int) *int {
	if n < 0 || n >= len(m.st) {
		m.fail(api.Stack, 0)
		return new(int)
	}
	return &m.st[n]
}

func (m *model) goFar(bank int, addr uint16) {
	m.s.PC = addr
	if addr/0x1000 == 1 {
		m.s.Bank = modulo(bank, 64)
	}
}

func modelSigned(n uint16) int {
	if n > 0x7fff {
		return int(n) - 0x10000
	}
	return int(n)
}

func flag(f uint16, which int) bool { return int(f)/which%2 == 1 }

// modelCond evaluates a condition as P1.3 says.
func modelCond(cc int, f uint16) bool {
	z, n, c, v := flag(f, 1), flag(f, 2), flag(f, 4), flag(f, 8)
	return []bool{z, !z, c, !c, n, !n, v, !v, c && !z, !c || z, n == v, n != v, !z && n == v, z || n != v}[cc]
}

func (m *model) execute(ins api.Ins) {
	switch op := ins.Op; {
	case op == 0x12 || op == 0x13 || op >= 0x20 && op <= 0x4e:
		m.calculate(ins)
	case op >= 0x50 && op <= 0x5b || op >= 0x92 && op <= 0x96:
		m.access(ins)
	case op >= 0x60 && op <= 0x7d:
		if modelCond(op%16, m.s.F) {
			m.s.PC += ins.Imm
		}
	case op >= 0x80 && op <= 0x86 || op == 0x01 || op == 0x02:
		m.jump(ins)
	case op >= 0xa0 || op >= 0x10 && op <= 0x15 || op == 0x05:
		m.useStack(ins)
	case op != 0x00:
		m.communicate(ins)
	}
}

func (m *model) half(f uint16, r int) uint16 {
	f &= 0x0c
	if r == 0 {
		f += 1
	}
	if r >= 0x8000 {
		f += 2
	}
	return f
}

// sum returns a plus or minus b plus or minus an extra number from 0 to 1, with its flags.
func (m *model) sum(a, b, sign, extra int) int {
	natural := a + sign*(b+extra)
	signed := modelSigned(uint16(a)) + sign*(modelSigned(uint16(b))+extra)
	r := modulo(natural, 65536)
	m.s.F = m.half(0, r)
	if sign > 0 && natural > 65535 || sign < 0 && natural >= 0 {
		m.s.F += 4
	}
	if signed < -32768 || signed > 32767 {
		m.s.F += 8
	}
	return r
}

func (m *model) calculate(ins api.Ins) {
	a, b := int(m.s.R[ins.D]), int(m.s.R[ins.S])
	op := ins.Op
	if op >= 0x30 {
		b = int(ins.Imm)
		op = 0x20 + op%16
	}
	carry := 0
	if flag(m.s.F, 4) {
		carry = 1
	}
	r := 0
	switch op {
	case 0x20:
		m.s.R[ins.D] = uint16(b)
		return
	case 0x21:
		r = m.sum(a, b, 1, 0)
	case 0x22:
		r = m.sum(a, b, 1, carry)
	case 0x23:
		r = m.sum(a, b, -1, 0)
	case 0x24:
		r = m.sum(a, b, -1, 1-carry)
	case 0x28:
		m.sum(a, b, -1, 0)
		r = a
	case 0x12:
		r = m.sum(0, a, -1, 0)
	case 0x29:
		m.s.F = m.half(m.s.F, a&b)
		r = a
	default:
		r = m.logic(op, a, b)
		m.s.F = m.half(m.s.F, r)
	}
	m.s.R[ins.D] = uint16(r)
}

func (m *model) logic(op, a, b int) int {
	switch op {
	case 0x13:
		return 65535 - a
	case 0x25:
		return a & b
	case 0x26:
		return a | b
	case 0x27:
		return a ^ b
	case 0x2a:
		return a * b % 65536
	case 0x2b:
		if b == 0 {
			m.fail(api.Divide, 0)
			return 0
		}
		return a / b
	}
	for range b % 16 {
		switch op {
		case 0x2c:
			a = a * 2 % 65536
		case 0x2d:
			a = a / 2
		case 0x2e:
			a = a/2 + a/0x8000*0x8000
		}
	}
	return a
}

func (m *model) access(ins api.Ins) {
	at := modulo(int(m.s.R[ins.S])+int(ins.Imm), 65536)
	d := &m.s.R[ins.D]
	switch ins.Op {
	case 0x50, 0x58:
		*d = m.load(at, 2)
	case 0x51, 0x59:
		*d = m.load(at, 1)
	case 0x52, 0x5a:
		m.store(at, 2, *d)
	case 0x53, 0x5b:
		m.store(at, 1, *d)
	case 0x54:
		*d = m.load(int(ins.Imm), 2)
	case 0x55:
		*d = m.load(int(ins.Imm), 1)
	case 0x56:
		m.store(int(ins.Imm), 2, *d)
	case 0x57:
		m.store(int(ins.Imm), 1, *d)
	case 0x92:
		*d = m.constant(ins.Bank, at, 2)
	case 0x93:
		*d = m.constant(ins.Bank, at, 1)
	case 0x96:
		m.store(at, 2, ins.Aux)
	}
}

func (m *model) jump(ins api.Ins) {
	next := int(m.s.PC)
	relative := uint16(modulo(next+int(ins.Imm), 65536))
	index := int(m.s.R[ins.D])
	switch ins.Op {
	case 0x01:
		m.s.PC = m.pop()
		m.s.Bank = int(m.pop()) % 64
	case 0x02:
		m.fail(api.Halt, 0)
	case 0x80, 0x81:
		m.s.PC = relative
	case 0x82:
		m.push(m.s.Bank)
		m.push(next)
		m.s.PC = relative
	case 0x83:
		m.goFar(ins.Bank, ins.Imm)
	case 0x84:
		m.push(m.s.Bank)
		m.push(next)
		m.goFar(ins.Bank, ins.Imm)
	case 0x85:
		m.s.PC = relative
		if index < ins.Bank {
			m.s.PC = m.codeWord(modulo(int(ins.Aux)+2*index, 65536))
		}
	case 0x86:
		m.s.PC = m.codeWord(modulo(int(ins.Imm)+2*index, 65536))
	}
}

func (m *model) useStack(ins api.Ins) {
	d := &m.s.R[ins.D]
	below := len(m.st) - 1 - int(ins.Imm)
	inFrame := int(m.s.FP) + modelSigned(ins.Imm)
	switch ins.Op {
	case 0x05:
		if m.s.FP == 0 || int(m.s.FP) > len(m.st) {
			m.fail(api.Stack, 0)
			return
		}
		m.st = m.st[:m.s.FP]
		m.s.FP = m.pop()
	case 0x10:
		m.push(int(*d))
	case 0x11:
		*d = m.pop()
	case 0x14:
		m.push(int(m.s.FP))
		m.s.FP = uint16(len(m.st))
		for range int(ins.Imm) {
			m.push(0)
		}
	case 0x15:
		for range int(ins.Imm) {
			m.pop()
		}
	case 0xa0:
		*d = uint16(*m.word(below))
	case 0xa1:
		*m.word(below) = int(*d)
	case 0xa2:
		*d = uint16(*m.word(inFrame))
	case 0xa3:
		*m.word(inFrame) = int(*d)
	}
}

func (m *model) communicate(ins api.Ins) {
	d := &m.s.R[ins.D]
	switch ins.Op {
	case 0x03:
		for k := 7; k >= 0; k-- {
			m.s.R[k] = m.pop()
		}
		m.s.FP = m.pop()
		m.s.F = m.pop() % 16
		m.s.PC = m.pop()
		m.s.Bank = int(m.pop()) % 64
	case 0x04:
		m.poll()
	case 0x90:
		switch left := m.inputsLeft(); {
		case ins.Imm == 0:
			*d = uint16(modulo(m.s.Bank, 65536))
		case len(left) == 0:
			*d = 0
		default:
			*d = left[0]
			m.s.Inputs = len(m.t.In) - len(left) + 1
		}
	case 0x91:
		if ins.Imm == 0 {
			m.s.Bank = int(*d) % 64
		} else {
			m.out = append(m.out, api.Event{Port: ins.Imm, Value: *d})
		}
	}
}

func (m *model) inputsLeft() []uint16 {
	switch {
	case m.s.Inputs < 0:
		return m.t.In
	case m.s.Inputs > len(m.t.In):
		return nil
	}
	return m.t.In[m.s.Inputs:]
}

func (m *model) poll() {
	if m.s.Polls >= len(m.t.Irq) || len(m.t.Irq) == 0 {
		return
	}
	if m.s.Polls < 0 {
		m.s.Polls = 0
	}
	pending := m.t.Irq[m.s.Polls] != 0
	m.s.Polls++
	if !pending || m.i.Vector == 0 {
		return
	}
	m.push(m.s.Bank)
	m.push(int(m.s.PC))
	m.push(int(m.s.F))
	m.push(int(m.s.FP))
	for k := range 8 {
		m.push(int(m.s.R[k]))
	}
	m.s.PC = m.i.Vector
}
