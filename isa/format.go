package isa

import "vellum/api"

// The fields in which formats store what follows the operation.
const (
	fieldD      = iota + 1 // D as a byte
	fieldS                 // S as a byte
	fieldDS                // D and S as the halves of a byte
	fieldSigned            // Imm as a signed byte
	fieldByte              // Imm as a byte from 0 to 255
	fieldImm               // Imm as a word
	fieldAux               // Aux as a word
	fieldBank              // Bank as a byte, the number of a bank
	fieldLimit             // Bank as a byte, the limit of a table
)

const (
	registers = 8
	longest   = 7 // the size of JTAB
)

// format describes the instructions with the operations first + form to last + form. Unused elements of fields
// are 0; suffix and operands belong to the text (see operand for the letters of operands).
type format struct {
	first, last, form byte
	size              byte
	fields            [4]byte
	suffix, operands  string
}

var formats = [22]format{
	{first: api.NOP, last: api.LEAVE, size: 1},
	{first: api.PUSH, last: api.NOT, size: 2, fields: [4]byte{fieldD}, operands: "D"},
	{first: api.ENTER, last: api.DROP, size: 2, fields: [4]byte{fieldByte}, operands: "n"},
	{first: api.MOV, last: api.SAR, size: 2, fields: [4]byte{fieldDS}, operands: "D, S"},
	{first: api.MOV, last: api.SAR, form: 0x10, size: 3, fields: [4]byte{fieldD, fieldSigned}, suffix: ".b", operands: "D, i"},
	{first: api.MOV, last: api.SAR, form: 0x20, size: 4, fields: [4]byte{fieldD, fieldImm}, suffix: ".w", operands: "D, i"},
	{first: api.LD, last: api.STB, size: 3, fields: [4]byte{fieldDS, fieldSigned}, operands: "D, [So]"},
	{first: api.LD, last: api.STB, form: 0x08, size: 4, fields: [4]byte{fieldDS, fieldImm}, suffix: ".w", operands: "D, [So]"},
	{first: api.LDA, last: api.STAB, size: 4, fields: [4]byte{fieldD, fieldImm}, operands: "D, [a]"},
	{first: api.JCC, last: api.JCC + api.CcLe, size: 2, fields: [4]byte{fieldSigned}, operands: "t"},
	{first: api.JCC, last: api.JCC + api.CcLe, form: 0x10, size: 3, fields: [4]byte{fieldImm}, suffix: ".w", operands: "t"},
	{first: api.JMP, last: api.JMP, size: 2, fields: [4]byte{fieldSigned}, operands: "t"},
	{first: api.JMPW, last: api.CALL, size: 3, fields: [4]byte{fieldImm}, operands: "t"},
	{first: api.JMPF, last: api.CALLF, size: 4, fields: [4]byte{fieldBank, fieldImm}, operands: "b:a"},
	{first: api.JTAB, last: api.JTAB, size: 7, fields: [4]byte{fieldD, fieldLimit, fieldImm, fieldAux}, operands: "D, b, t, x"},
	{first: api.JMPI, last: api.JMPI, size: 4, fields: [4]byte{fieldD, fieldImm}, operands: "D, a"},
	{first: api.IN, last: api.IN, size: 3, fields: [4]byte{fieldD, fieldByte}, operands: "D, n"},
	{first: api.OUT, last: api.OUT, size: 3, fields: [4]byte{fieldD, fieldByte}, operands: "n, D"},
	{first: api.LDC, last: api.LDCB, size: 5, fields: [4]byte{fieldDS, fieldBank, fieldImm}, operands: "D, b:[S+a]"},
	{first: api.STI, last: api.STI, size: 6, fields: [4]byte{fieldS, fieldImm, fieldAux}, operands: "[So], y"},
	{first: api.LDS, last: api.STS, size: 3, fields: [4]byte{fieldD, fieldByte}, operands: "D, n"},
	{first: api.LDF, last: api.STF, size: 3, fields: [4]byte{fieldD, fieldSigned}, operands: "D, i"},
}

// formatOf returns the format of an operation, and whether it has one.
func formatOf(op int) (format, bool) {
	for k := range formats {
		base := op - int(formats[k].form)
		if base >= int(formats[k].first) && base <= int(formats[k].last) {
			return formats[k], true
		}
	}
	return format{}, false
}

// write returns the bytes of an instruction, cutting off what does not fit in its field.
func write(f format, i api.Ins) string {
	code := make([]byte, 0, longest)
	putByte := func(n int) { code = append(code, byte(n)) }
	putWord := func(n uint16) { code = append(code, byte(n), byte(n>>8)) }
	putByte(i.Op)
	for _, field := range f.fields {
		switch field {
		case fieldD:
			putByte(i.D)
		case fieldS:
			putByte(i.S)
		case fieldDS:
			putByte(16*i.D + i.S)
		case fieldSigned, fieldByte:
			putByte(int(i.Imm))
		case fieldImm:
			putWord(i.Imm)
		case fieldAux:
			putWord(i.Aux)
		case fieldBank, fieldLimit:
			putByte(i.Bank)
		}
	}
	return string(code)
}

// read returns the instruction whose bytes a string begins with, and whether its fields are in range.
func read(f format, code string) (api.Ins, bool) {
	i := api.Ins{Op: int(code[0]), Size: int(f.size)}
	inRange := true
	at := 1
	nextByte := func() byte {
		at++
		return code[at-1]
	}
	nextWord := func() uint16 {
		low := uint16(nextByte())
		return low | uint16(nextByte())<<8
	}
	for _, field := range f.fields {
		switch field {
		case fieldD:
			i.D = int(nextByte())
		case fieldS:
			i.S = int(nextByte())
		case fieldDS:
			both := int(nextByte())
			i.D, i.S = both/16, both%16
		case fieldSigned:
			i.Imm = uint16(int8(nextByte()))
		case fieldByte:
			i.Imm = uint16(nextByte())
		case fieldImm:
			i.Imm = nextWord()
		case fieldAux:
			i.Aux = nextWord()
		case fieldBank:
			i.Bank = int(nextByte())
			inRange = i.Bank < api.MaxBanks
		case fieldLimit:
			i.Bank = int(nextByte())
			inRange = i.Bank > 0
		}
	}
	return i, inRange && i.D < registers && i.S < registers
}
