// Package word is layer 1: 16-bit arithmetic with flags, conditions, shifts, bytes and checksums (see shared/doc/01-word.md).
package word

import "vellum/api"

// conditionNames is ordered by the numbers of the conditions.
var conditionNames = [14]string{"eq", "ne", "cs", "cc", "mi", "pl", "vs", "vc", "hi", "ls", "ge", "lt", "gt", "le"}

// Add returns a + b + c, where c is 1 if carry is true, and all four flags.
func Add(a, b uint16, carry bool) (r, flags uint16) {
	natural := uint32(a) + uint32(b)
	signed := int32(int16(a)) + int32(int16(b))
	if carry {
		natural++
		signed++
	}
	r = uint16(natural)
	flags = Half(r)
	if natural > 0xffff {
		flags |= api.FlagC
	}
	if signed != int32(int16(r)) {
		flags |= api.FlagV
	}
	return r, flags
}

// Sub returns a - b - (1 - c), where c is 1 if carry is true, and all four flags.
func Sub(a, b uint16, carry bool) (r, flags uint16) {
	// The complement of b is 0xffff - b, and its signed value is -1 minus that of b. Thus the sum is the
	// difference plus 2^16 as a natural number, which makes C the absence of a borrow, and exactly the
	// difference as a signed one.
	return Add(a, ^b, carry)
}

// Half returns the result half (Z and N) of a result.
func Half(r uint16) uint16 {
	var half uint16
	if r == 0 {
		half |= api.FlagZ
	}
	if r&0x8000 != 0 {
		half |= api.FlagN
	}
	return half
}

// With returns flags in which the result half is replaced by that of a result.
func With(flags, r uint16) uint16 {
	return flags&(api.FlagC|api.FlagV) | Half(r)
}

// Cond evaluates a condition.
func Cond(cc int, flags uint16) bool {
	if !isCondition(cc) {
		return false
	}
	// Every odd condition is the complement of the even one before it.
	complemented := cc%2 == 1
	return evenCondition(cc-cc%2, flags) != complemented
}

// isCondition reports whether cc is the number of a condition.
func isCondition(cc int) bool {
	return cc >= 0 && cc < len(conditionNames)
}

// evenCondition evaluates one of the even conditions.
func evenCondition(cc int, flags uint16) bool {
	z := flags&api.FlagZ != 0
	n := flags&api.FlagN != 0
	c := flags&api.FlagC != 0
	v := flags&api.FlagV != 0
	switch cc {
	case api.CcEq:
		return z
	case api.CcCs:
		return c
	case api.CcMi:
		return n
	case api.CcVs:
		return v
	case api.CcHi:
		return c && !z
	case api.CcGe:
		return n == v
	case api.CcGt:
		return !z && n == v
	}
	return false
}

// CondName returns the name of a condition, or the empty string.
func CondName(cc int) string {
	if !isCondition(cc) {
		return ""
	}
	return conditionNames[cc]
}

// CondOf returns the condition with a name, and whether there is one.
func CondOf(name string) (int, bool) {
	for cc, known := range conditionNames {
		if known == name {
			return cc, true
		}
	}
	return 0, false
}

// Shift shifts a by n modulo 16 bits: to the left (kind 0), to the right (1), or to the right with copies of the highest bit (2).
func Shift(kind int, a, n uint16) uint16 {
	shifts := map[int]func(count uint16) uint16{
		0: func(count uint16) uint16 { return a << count },
		1: func(count uint16) uint16 { return a >> count },
		2: func(count uint16) uint16 { return uint16(int16(a) >> count) },
	}
	shift, known := shifts[kind]
	if !known {
		return 0
	}
	return shift(n % 16)
}

// Sign returns the sign extension of a byte.
func Sign(b byte) uint16 {
	return uint16(int8(b))
}

// Fits reports whether a word is the sign extension of its low byte.
func Fits(n uint16) bool {
	return Sign(byte(n)) == n
}

// Put returns the two bytes of a word, the low one first.
func Put(n uint16) string {
	return string([]byte{byte(n), byte(n >> 8)})
}

// Get returns the word of the first two bytes of a string, the low one first; missing bytes are 0.
func Get(s string) uint16 {
	var n uint16
	if len(s) > 0 {
		n = uint16(s[0])
	}
	if len(s) > 1 {
		n |= uint16(s[1]) << 8
	}
	return n
}

// Sum returns the CRC-16 of a string (polynomial 0x1021, initial value 0xffff, not reflected).
func Sum(s string) uint16 {
	register := uint16(0xffff)
	for i := 0; i < len(s); i++ {
		register = sumByte(register, s[i])
	}
	return register
}

// sumByte returns the register of a checksum after one more byte.
func sumByte(register uint16, b byte) uint16 {
	register ^= uint16(b) << 8
	for range 8 {
		shiftedOut := register & 0x8000
		register <<= 1
		if shiftedOut != 0 {
			register ^= 0x1021
		}
	}
	return register
}
