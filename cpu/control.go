package cpu

import (
	"vellum/api"
	"vellum/image"
	"vellum/word"
)

// branch executes a conditional jump.
func (m *machine) branch(ins api.Ins) {
	condition := ins.Op % 16
	if word.Cond(condition, m.state.F) {
		m.state.PC += ins.Imm
	}
}

// jump executes an instruction that goes elsewhere, or ends the run.
func (m *machine) jump(ins api.Ins) {
	switch ins.Op {
	case api.JMP, api.JMPW:
		m.state.PC += ins.Imm
	case api.CALL:
		m.pushReturn()
		m.state.PC += ins.Imm
	case api.JMPF:
		m.goFar(api.Place{Bank: ins.Bank, Addr: ins.Imm})
	case api.CALLF:
		m.pushReturn()
		m.goFar(api.Place{Bank: ins.Bank, Addr: ins.Imm})
	case api.RET:
		m.popReturn()
	case api.JTAB:
		if index := m.state.R[ins.D]; index < uint16(ins.Bank) {
			m.goByTable(ins.Aux, index)
		} else {
			m.state.PC += ins.Imm
		}
	case api.JMPI:
		m.goByTable(ins.Imm, m.state.R[ins.D])
	case api.HLT:
		demand(false, api.Halt, 0)
	}
}

// pushReturn pushes where a call returns.
func (m *machine) pushReturn() {
	m.push(uint16(m.state.Bank))
	m.push(m.state.PC)
}

// popReturn undoes pushReturn.
func (m *machine) popReturn() {
	m.state.PC = m.pop()
	m.state.Bank = bankNumber(m.pop())
}

// bankNumber returns the bank that a word selects.
func bankNumber(n uint16) int {
	return int(n % api.MaxBanks)
}

// goFar goes to a place. The bank is selected only if the place lies in the window.
func (m *machine) goFar(to api.Place) {
	m.state.PC = to.Addr
	if to.Addr >= api.Window && to.Addr < api.WindowEnd {
		// The cut to a word keeps a number modulo 64, also if it is negative.
		m.state.Bank = bankNumber(uint16(to.Bank))
	}
}

// goByTable goes to the address that an element of a table in the code contains.
func (m *machine) goByTable(table, index uint16) {
	m.state.PC = wordAt(table+2*index, m.codeByte)
}

// codeByte returns the code byte at an address.
func (m *machine) codeByte(at uint16) byte {
	bank, off, exists := image.Offset(m.image, m.placeOf(at))
	demand(exists, api.Fault, at)
	return m.image.Banks[bank][off]
}
