package isa

import (
	"strconv"
	"strings"

	"vellum/api"
)

// conditionNames is ordered by the numbers of the conditions.
var conditionNames = [14]string{"eq", "ne", "cs", "cc", "mi", "pl", "vs", "vc", "hi", "ls", "ge", "lt", "gt", "le"}

// Line returns a valid instruction at a place as text.
func Line(i api.Ins, at api.Place) string {
	if !Valid(i) {
		return ""
	}
	f, _ := formatOf(i.Op)
	name := mnemonic(i.Op-int(f.form)) + f.suffix
	if f.operands == "" {
		return name
	}
	return name + " " + operands(f.operands, i, at)
}

// mnemonic returns the name of an operation in its form without a suffix.
func mnemonic(op int) string {
	if op >= api.JCC && op < api.JCC+len(conditionNames) {
		return "j" + conditionNames[op-api.JCC]
	}
	names := map[int]string{
		api.NOP: "nop", api.RET: "ret", api.HLT: "hlt", api.IRET: "iret", api.POLL: "poll", api.LEAVE: "leave",
		api.PUSH: "push", api.POP: "pop", api.NEG: "neg", api.NOT: "not", api.ENTER: "enter", api.DROP: "drop",
		api.MOV: "mov", api.ADD: "add", api.ADC: "adc", api.SUB: "sub", api.SBB: "sbb",
		api.AND: "and", api.OR: "or", api.XOR: "xor", api.CMP: "cmp", api.TST: "tst",
		api.MUL: "mul", api.DIV: "div", api.SHL: "shl", api.SHR: "shr", api.SAR: "sar",
		api.LD: "ld", api.LDB: "ldb", api.ST: "st", api.STB: "stb",
		api.LDA: "lda", api.LDAB: "ldab", api.STA: "sta", api.STAB: "stab",
		api.JMP: "jmp", api.JMPW: "jmpw", api.CALL: "call", api.JMPF: "jmpf", api.CALLF: "callf",
		api.JTAB: "jtab", api.JMPI: "jmpi",
		api.IN: "in", api.OUT: "out", api.LDC: "ldc", api.LDCB: "ldcb", api.STI: "sti",
		api.LDS: "lds", api.STS: "sts", api.LDF: "ldf", api.STF: "stf",
	}
	return names[op]
}

// operands returns a template in which every letter is replaced by the operand for which it stands.
func operands(template string, i api.Ins, at api.Place) string {
	var text strings.Builder
	for k := range len(template) {
		text.WriteString(operand(template[k], i, at))
	}
	return text.String()
}

// operand returns the text for which a letter of a template stands; other characters stand for themselves.
func operand(letter byte, i api.Ins, at api.Place) string {
	switch letter {
	case 'D':
		return registerName(i.D)
	case 'S':
		return registerName(i.S)
	case 'n':
		return strconv.Itoa(int(i.Imm))
	case 'i':
		return signedNumber(i.Imm)
	case 'o':
		return signedOffset(i.Imm)
	case 'a':
		return address(i.Imm)
	case 't':
		return address(relativeAddress(i, at))
	case 'b':
		return strconv.Itoa(i.Bank)
	case 'x':
		return address(i.Aux)
	case 'y':
		return signedNumber(i.Aux)
	}
	return string(rune(letter))
}

// registerName returns the name of a register.
func registerName(n int) string {
	return "r" + strconv.Itoa(n)
}

// signedNumber returns the signed value of a word in decimal.
func signedNumber(n uint16) string {
	return strconv.Itoa(int(int16(n)))
}

// signedOffset returns the signed value of a word in decimal, always with a sign.
func signedOffset(n uint16) string {
	if int16(n) < 0 {
		return signedNumber(n)
	}
	return "+" + signedNumber(n)
}

// address returns a word with four hexadecimal digits.
func address(n uint16) string {
	digits := strconv.FormatUint(uint64(n), 16)
	return "0x" + strings.Repeat("0", 4-len(digits)) + digits
}
