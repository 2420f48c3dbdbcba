package ir

import "vellum/api"

// wordOf returns the word that consists of two bytes.
func wordOf(low, high byte) uint16 {
	return uint16(low) | uint16(high)<<8
}

// demandRam raises a fault if an address is not in RAM.
func demandRam(at uint16) {
	demand(at >= api.Ram && at < api.RamEnd, api.Fault, at)
}

// ramByte returns the byte at an address in RAM.
func (e *evaluation) ramByte(at uint16) byte {
	demandRam(at)
	return e.ram[at-api.Ram]
}

// ramWord returns the word at an address in RAM. The low byte is read first, so that a fault tells the first address
// that is wrong.
func (e *evaluation) ramWord(at uint16) uint16 {
	low := e.ramByte(at)
	return wordOf(low, e.ramByte(at+1))
}

// storeByte stores a byte at an address in RAM.
func (e *evaluation) storeByte(at uint16, b byte) {
	demandRam(at)
	e.ram[at-api.Ram] = b
}

// storeWord stores a word at an address in RAM, or nothing if one of its bytes is not in RAM.
func (e *evaluation) storeWord(at, n uint16) {
	demandRam(at)
	demandRam(at + 1)
	e.storeByte(at, byte(n))
	e.storeByte(at+1, byte(n>>8))
}

// romByte returns the byte at an offset of a bank.
func (e *evaluation) romByte(bank int, off uint16) byte {
	demand(bank < len(e.program.Banks) && off < api.BankSize, api.Fault, off)
	return e.program.Banks[bank][off]
}

// romWord returns the word at an offset of a bank; the low byte is read first.
func (e *evaluation) romWord(bank int, off uint16) uint16 {
	low := e.romByte(bank, off)
	return wordOf(low, e.romByte(bank, off+1))
}
