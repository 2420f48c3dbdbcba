package cpu

import "vellum/api"

// long is what the long forms of LD to STB add to the operation.
const long = 8

// access executes an instruction that loads from RAM or from a bank, or stores in RAM.
func (m *machine) access(ins api.Ins) {
	at := m.accessed(ins)
	switch ins.Op {
	case api.LD, api.LD + long, api.LDA:
		m.state.R[ins.D] = wordAt(at, m.ramByte)
	case api.LDB, api.LDB + long, api.LDAB:
		m.state.R[ins.D] = uint16(m.ramByte(at))
	case api.ST, api.ST + long, api.STA:
		m.storeWord(at, m.state.R[ins.D])
	case api.STB, api.STB + long, api.STAB:
		m.storeByte(at, byte(m.state.R[ins.D]))
	case api.STI:
		m.storeWord(at, ins.Aux)
	case api.LDC:
		m.state.R[ins.D] = wordAt(at, func(off uint16) byte { return m.constant(ins.Bank, off) })
	case api.LDCB:
		m.state.R[ins.D] = uint16(m.constant(ins.Bank, at))
	}
}

// accessed returns the address, or the offset in a bank, that an instruction accesses.
func (m *machine) accessed(ins api.Ins) uint16 {
	if ins.Op >= api.LDA && ins.Op <= api.STAB {
		return ins.Imm
	}
	return m.state.R[ins.S] + ins.Imm
}

// wordAt returns the word at an address. The low byte is read first, so that a fault tells the first address that is wrong.
func wordAt(at uint16, byteAt func(uint16) byte) uint16 {
	low := byteAt(at)
	high := byteAt(at + 1)
	return uint16(low) | uint16(high)<<8
}

// demandRam raises a fault if an address is not in RAM.
func demandRam(at uint16) {
	demand(at >= api.Ram && at < api.RamEnd, api.Fault, at)
}

// ramByte returns the byte at an address in RAM.
func (m *machine) ramByte(at uint16) byte {
	demandRam(at)
	return m.ram[at-api.Ram]
}

// storeByte stores a byte at an address in RAM.
func (m *machine) storeByte(at uint16, b byte) {
	demandRam(at)
	m.ram[at-api.Ram] = b
}

// storeWord stores a word at an address in RAM, or nothing if one of its bytes is not in RAM.
func (m *machine) storeWord(at, n uint16) {
	demandRam(at)
	demandRam(at + 1)
	m.storeByte(at, byte(n))
	m.storeByte(at+1, byte(n>>8))
}

// constant returns the byte at an offset of a bank with a number that is not negative.
func (m *machine) constant(bank int, off uint16) byte {
	demand(off < api.BankSize && bank < len(m.image.Banks) && int(off) < len(m.image.Banks[bank]), api.Fault, off)
	return m.image.Banks[bank][off]
}
