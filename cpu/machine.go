package cpu

import (
	"slices"

	"vellum/api"
	"vellum/image"
	"vellum/isa"
)

// machine is a normal state with the image and the tape of a run. The stack consists of the first state.SP words.
//
// A trap puts back only state. Therefore an instruction changes RAM, events, and words that are on the stack only
// when it cannot raise a trap any more.
type machine struct {
	image      api.Image
	tape       api.Tape
	state      api.State
	ram        [api.RamSize]byte
	stack      [api.StackWords]uint16
	out        []api.Event
	operations map[int]operation
}

// load returns a machine in a state that it makes normal: it copies what fits, into memory full of zeros.
func load(i api.Image, t api.Tape, s api.Snap) *machine {
	m := &machine{image: i, tape: t, state: s.S, out: slices.Clone(s.Out), operations: arithmetic()}
	copy(m.ram[:], s.Ram)
	m.state.SP = uint16(copy(m.stack[:], s.Stack))
	return m
}

// snap returns the state of a machine.
func (m *machine) snap() api.Snap {
	return api.Snap{
		S:     m.state,
		Ram:   string(m.ram[:]),
		Stack: slices.Clone(m.stack[:m.state.SP]),
		Out:   slices.Clone(m.out),
	}
}

// equals compares the states of two machines.
func (m *machine) equals(other *machine) bool {
	return m.state == other.state && m.ram == other.ram && slices.Equal(m.out, other.out) &&
		slices.Equal(m.stack[:m.state.SP], other.stack[:other.state.SP])
}

// attempt does an action. If this raises a trap, it returns the trap, and the machine is as it was before.
func (m *machine) attempt(action func()) (trap api.Trap) {
	before := m.state
	defer func() {
		if raised, ok := recover().(api.Trap); ok {
			m.state, trap = before, raised
		}
	}()
	action()
	return api.Trap{}
}

// demand raises a trap if a condition does not hold.
func demand(holds bool, kind int, info uint16) {
	if !holds {
		panic(api.Trap{Kind: kind, Info: info})
	}
}

// isTrap tells the traps from the absence of one.
func isTrap(t api.Trap) bool {
	return t.Kind != api.NoTrap
}

// run executes at most some instructions, and returns the trap that ends the run.
func (m *machine) run(most int) api.Trap {
	step := m.step
	for range most {
		if trap := m.attempt(step); isTrap(trap) {
			return trap
		}
	}
	return api.Trap{Kind: api.Budget}
}

// enter pushes what a call of a function pushes, and goes there. The function returns to no place.
func (m *machine) enter(f api.Place, args []uint16) {
	for _, arg := range args {
		m.push(arg)
	}
	m.state.PC = api.NoPlace
	m.pushReturn()
	m.goFar(f)
}

// step executes one instruction. While it is executed, PC is the next address.
func (m *machine) step() {
	demand(m.state.PC != api.NoPlace, api.Return, 0)
	ins := m.fetch()
	m.state.Steps++
	m.state.PC += uint16(ins.Size)
	m.execute(ins)
}

// fetch returns the instruction at PC.
func (m *machine) fetch() api.Ins {
	at := m.placeOf(m.state.PC)
	m.demandCode(at, 1)
	size := isa.Size(image.Code(m.image, at, 1)[0])
	demand(size > 0, api.Illegal, 0)
	m.demandCode(at, size)
	ins, err := isa.Decode(image.Code(m.image, at, size))
	demand(err == api.OK, api.Illegal, 0)
	return ins
}

// placeOf returns the place of an address, as the machine sees it; for an address outside of the code it is not a code address.
func (m *machine) placeOf(addr uint16) api.Place {
	if addr < api.Window {
		return api.Place{Addr: addr}
	}
	return api.Place{Bank: m.state.Bank, Addr: addr}
}

// demandCode raises a fault at the first of some bytes at a place that does not exist, or lies in another part.
func (m *machine) demandCode(at api.Place, size int) {
	for k := range size {
		p, inPart := image.Next(at, k)
		_, _, exists := image.Offset(m.image, p)
		demand(inPart && exists, api.Fault, at.Addr+uint16(k))
	}
}

// execute executes an instruction.
func (m *machine) execute(ins api.Ins) {
	switch ins.Op {
	case api.NOP:
	case api.LDA, api.LDAB, api.STA, api.STAB, api.LD, api.LDB, api.ST, api.STB, api.LDC, api.LDCB, api.STI,
		api.LD + long, api.LDB + long, api.ST + long, api.STB + long:
		m.access(ins)
	case api.PUSH, api.POP, api.ENTER, api.LEAVE, api.DROP, api.LDS, api.STS, api.LDF, api.STF:
		m.useStack(ins)
	case api.JMP, api.JMPW, api.CALL, api.JMPF, api.CALLF, api.RET, api.JTAB, api.JMPI, api.HLT:
		m.jump(ins)
	case api.IN, api.OUT, api.POLL, api.IRET:
		m.communicate(ins)
	default:
		if ins.Op >= api.JCC {
			m.branch(ins)
		} else {
			m.calculate(ins)
		}
	}
}
