package cpu

import "vellum/api"

// push appends a word to the stack.
func (m *machine) push(n uint16) {
	demand(m.state.SP < api.StackWords, api.Stack, 0)
	m.stack[m.state.SP] = n
	m.state.SP++
}

// pop removes the top of the stack.
func (m *machine) pop() uint16 {
	demand(m.state.SP > 0, api.Stack, 0)
	m.state.SP--
	return m.stack[m.state.SP]
}

// useStack executes an instruction that changes the stack, or accesses a word of it.
func (m *machine) useStack(ins api.Ins) {
	switch ins.Op {
	case api.PUSH:
		m.push(m.state.R[ins.D])
	case api.POP:
		m.state.R[ins.D] = m.pop()
	case api.ENTER:
		m.openFrame(ins.Imm)
	case api.LEAVE:
		m.closeFrame()
	case api.DROP:
		demand(ins.Imm <= m.state.SP, api.Stack, 0)
		m.state.SP -= ins.Imm
	case api.LDS, api.LDF:
		m.state.R[ins.D] = m.stack[m.wordNumber(ins)]
	case api.STS, api.STF:
		m.stack[m.wordNumber(ins)] = m.state.R[ins.D]
	}
}

// openFrame saves the frame pointer, and pushes zeros above it.
func (m *machine) openFrame(zeros uint16) {
	m.push(m.state.FP)
	m.state.FP = m.state.SP
	for range zeros {
		m.push(0)
	}
}

// closeFrame undoes openFrame.
func (m *machine) closeFrame() {
	demand(m.state.FP > 0 && m.state.FP <= m.state.SP, api.Stack, 0)
	m.state.SP = m.state.FP
	m.state.FP = m.pop()
}

// wordNumber returns the number of the word of the stack that an instruction accesses.
func (m *machine) wordNumber(ins api.Ins) int {
	n := int(m.state.SP) - 1 - int(ins.Imm)
	if ins.Op == api.LDF || ins.Op == api.STF {
		n = int(m.state.FP) + int(int16(ins.Imm))
	}
	demand(n >= 0 && n < int(m.state.SP), api.Stack, 0)
	return n
}
