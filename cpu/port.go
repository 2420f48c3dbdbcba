package cpu

import "vellum/api"

// bankPort is the port through which the bank in the window is read and selected.
const bankPort = 0

// communicate executes an instruction that uses a port, or begins or ends an interrupt.
func (m *machine) communicate(ins api.Ins) {
	switch ins.Op {
	case api.IN:
		m.state.R[ins.D] = m.read(ins.Imm)
	case api.OUT:
		m.write(ins.Imm, m.state.R[ins.D])
	case api.POLL:
		if m.isInterrupted() && m.image.Vector != 0 {
			m.beginInterrupt()
		}
	case api.IRET:
		m.endInterrupt()
	}
}

// read returns the word from a port.
func (m *machine) read(port uint16) uint16 {
	if port == bankPort {
		return uint16(m.state.Bank)
	}
	n := max(m.state.Inputs, 0)
	if n >= len(m.tape.In) {
		return 0
	}
	m.state.Inputs = n + 1
	return m.tape.In[n]
}

// write sends a word to a port.
func (m *machine) write(port, n uint16) {
	if port == bankPort {
		m.state.Bank = bankNumber(n)
		return
	}
	m.out = append(m.out, api.Event{Port: port, Value: n})
}

// isInterrupted reads the tape of interrupts, and reports whether one is pending.
func (m *machine) isInterrupted() bool {
	n := max(m.state.Polls, 0)
	if n >= len(m.tape.Irq) {
		return false
	}
	m.state.Polls = n + 1
	return m.tape.Irq[n] != 0
}

// beginInterrupt saves what the handler may change, and goes there.
func (m *machine) beginInterrupt() {
	m.pushReturn()
	m.push(m.state.F)
	m.push(m.state.FP)
	for _, r := range m.state.R {
		m.push(r)
	}
	m.state.PC = m.image.Vector
}

// endInterrupt undoes beginInterrupt.
func (m *machine) endInterrupt() {
	for k := range m.state.R {
		m.state.R[len(m.state.R)-1-k] = m.pop()
	}
	m.state.FP = m.pop()
	m.state.F = m.pop() % 16
	m.popReturn()
}
