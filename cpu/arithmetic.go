package cpu

import (
	"vellum/api"
	"vellum/word"
)

// operation computes the word that becomes r(D), and the flags, from the operands a and b and the flags before.
type operation func(a, b, flags uint16) (result, after uint16)

// arithmetic returns the operations of the arithmetic instructions, by their register forms.
func arithmetic() map[int]operation {
	add := func(a, b, _ uint16) (uint16, uint16) { return word.Add(a, b, false) }
	adc := func(a, b, flags uint16) (uint16, uint16) { return word.Add(a, b, hasCarry(flags)) }
	sub := func(a, b, _ uint16) (uint16, uint16) { return word.Sub(a, b, true) }
	sbb := func(a, b, flags uint16) (uint16, uint16) { return word.Sub(a, b, hasCarry(flags)) }
	and := withHalf(func(a, b uint16) uint16 { return a & b })
	return map[int]operation{
		api.MOV: func(_, b, flags uint16) (uint16, uint16) { return b, flags },
		api.ADD: add,
		api.ADC: adc,
		api.SUB: sub,
		api.SBB: sbb,
		api.AND: and,
		api.OR:  withHalf(func(a, b uint16) uint16 { return a | b }),
		api.XOR: withHalf(func(a, b uint16) uint16 { return a ^ b }),
		api.CMP: onlyFlags(sub),
		api.TST: onlyFlags(and),
		api.MUL: withHalf(func(a, b uint16) uint16 { return a * b }),
		api.DIV: withHalf(quotient),
		api.SHL: withHalf(func(a, b uint16) uint16 { return word.Shift(0, a, b) }),
		api.SHR: withHalf(func(a, b uint16) uint16 { return word.Shift(1, a, b) }),
		api.SAR: withHalf(func(a, b uint16) uint16 { return word.Shift(2, a, b) }),
		api.NEG: func(a, _, _ uint16) (uint16, uint16) { return word.Sub(0, a, true) },
		api.NOT: withHalf(func(a, _ uint16) uint16 { return ^a }),
	}
}

// hasCarry reports whether C is 1.
func hasCarry(flags uint16) bool {
	return flags&api.FlagC != 0
}

// withHalf returns the operation with some result whose result half the flags get.
func withHalf(result func(a, b uint16) uint16) operation {
	return func(a, b, flags uint16) (uint16, uint16) {
		r := result(a, b)
		return r, word.With(flags, r)
	}
}

// onlyFlags returns the operation that sets the flags like another one, and leaves r(D) as it is.
func onlyFlags(compute operation) operation {
	return func(a, b, flags uint16) (uint16, uint16) {
		_, after := compute(a, b, flags)
		return a, after
	}
}

// quotient divides unsigned words.
func quotient(a, b uint16) uint16 {
	demand(b != 0, api.Divide, 0)
	return a / b
}

// calculate executes an arithmetic instruction.
func (m *machine) calculate(ins api.Ins) {
	op, b := ins.Op, m.state.R[ins.S]
	if hasImmediate(op) {
		op, b = api.MOV+op%16, ins.Imm
	}
	m.state.R[ins.D], m.state.F = m.operations[op](m.state.R[ins.D], b, m.state.F)
}

// hasImmediate reports whether an arithmetic instruction has the short or the long form.
func hasImmediate(op int) bool {
	return op > api.SAR
}
