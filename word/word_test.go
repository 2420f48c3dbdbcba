package word_test

import (
	"math"
	"strings"
	"testing"

	"vellum/api"
	"vellum/word"
)

const (
	z = 1
	n = 2
	c = 4
	v = 8
)

// corners are words at which results, carries, or signs change.
var corners = []uint16{
	0, 1, 2, 3, 15, 16, 17, 0x7f, 0x80, 0x81, 0xff, 0x100, 0x101, 0x1234, 0x4000, 0x5555, 0x7ffe, 0x7fff,
	0x8000, 0x8001, 0xaaaa, 0xbfff, 0xc000, 0xedcb, 0xfeff, 0xff00, 0xff7f, 0xff80, 0xff81, 0xfffe, 0xffff,
}

var extremeInts = []int{
	math.MinInt, math.MinInt + 1, math.MinInt32, -1 << 16, -256, -16, -15, -14, -13, -3, -2, -1,
	14, 15, 16, 17, 28, 256, 1 << 16, math.MaxInt32, 1 << 32, math.MaxInt - 1, math.MaxInt,
}

func signedValue(x uint16) int {
	if x >= 0x8000 {
		return int(x) - 0x10000
	}
	return int(x)
}

func bit(b bool, value uint16) uint16 {
	if b {
		return value
	}
	return 0
}

func modelHalf(r uint16) uint16 {
	return bit(r == 0, z) + bit(r >= 0x8000, n)
}

func fitsSigned(x int) bool { return x >= -32768 && x <= 32767 }

func modelAdd(a, b uint16, carry bool) (uint16, uint16) {
	in := int(bit(carry, 1))
	natural := int(a) + int(b) + in
	signed := signedValue(a) + signedValue(b) + in
	r := uint16(natural % 0x10000)
	return r, modelHalf(r) + bit(natural >= 0x10000, c) + bit(!fitsSigned(signed), v)
}

func modelSub(a, b uint16, carry bool) (uint16, uint16) {
	borrow := 1 - int(bit(carry, 1))
	signed := signedValue(a) - signedValue(b) - borrow
	r := uint16((int(a) - int(b) - borrow + 2*0x10000) % 0x10000)
	return r, modelHalf(r) + bit(int(a) >= int(b)+borrow, c) + bit(!fitsSigned(signed), v)
}

type sumCase struct {
	a, b  uint16
	carry bool
	r, f  uint16
}

func checkSums(t *testing.T, name string, call func(a, b uint16, carry bool) (uint16, uint16), cases []sumCase) {
	t.Helper()
	for _, x := range cases {
		if r, f := call(x.a, x.b, x.carry); r != x.r || f != x.f {
			t.Errorf("%s(%#x, %#x, %v) is %#x, %d; want %#x, %d", name, x.a, x.b, x.carry, r, f, x.r, x.f)
		}
	}
}

func checkAgainstModel(t *testing.T, name string, call, model func(a, b uint16, carry bool) (uint16, uint16)) {
	t.Helper()
	for _, corner := range corners {
		for other := range 0x10000 {
			for _, carry := range []bool{false, true} {
				for _, pair := range [][2]uint16{{corner, uint16(other)}, {uint16(other), corner}} {
					r, f := call(pair[0], pair[1], carry)
					wantR, wantF := model(pair[0], pair[1], carry)
					if r != wantR || f != wantF {
						t.Fatalf("%s(%#x, %#x, %v) is %#x, %d; want %#x, %d", name, pair[0], pair[1], carry, r, f, wantR, wantF)
					}
				}
			}
		}
	}
}

func TestP1_1_Add(t *testing.T) {
	checkSums(t, "Add", word.Add, []sumCase{
		{0x7fff, 1, false, 0x8000, n + v},
		{0xffff, 0, true, 0, z + c},
		{0xffff, 1, false, 0, z + c},
		{0, 0, false, 0, z},
		{0, 0, true, 1, 0},
		{0x8000, 0x8000, false, 0, z + c + v},
		{0x8000, 0x8000, true, 1, c + v},
		{0x8000, 0xffff, false, 0x7fff, c + v},
		{0x8000, 0xffff, true, 0x8000, n + c},
		{0x7fff, 0, true, 0x8000, n + v},
		{0x7fff, 0x7fff, true, 0xffff, n + v},
		{0x7fff, 0x8000, true, 0, z + c},
		{0xffff, 0xffff, true, 0xffff, n + c},
		{2, 3, false, 5, 0},
	})
	checkAgainstModel(t, "Add", word.Add, modelAdd)
}

func TestP1_1_Sub(t *testing.T) {
	checkSums(t, "Sub", word.Sub, []sumCase{
		{1, 2, true, 0xffff, n},
		{2, 1, true, 1, c},
		{2, 1, false, 0, z + c},
		{1, 1, false, 0xffff, n},
		{0, 0, true, 0, z + c},
		{0, 0, false, 0xffff, n},
		{0, 0xffff, false, 0, z},
		{0, 0xffff, true, 1, 0},
		{0xffff, 0xffff, false, 0xffff, n},
		{0x8000, 0, false, 0x7fff, c + v},
		{0x8000, 1, true, 0x7fff, c + v},
		{0x7fff, 0xffff, true, 0x8000, n + v},
		{0x7fff, 0xffff, false, 0x7fff, 0},
		{0, 0x8000, true, 0x8000, n + v},
		{0, 0x8000, false, 0x7fff, 0},
	})
	checkAgainstModel(t, "Sub", word.Sub, modelSub)
}

func TestP1_2_Half(t *testing.T) {
	for r := range 0x10000 {
		if got, want := word.Half(uint16(r)), modelHalf(uint16(r)); got != want {
			t.Fatalf("Half(%#x) is %d; want %d", r, got, want)
		}
	}
}

func TestP1_2_With(t *testing.T) {
	for _, x := range []struct{ flags, r, want uint16 }{
		{0xffff, 0, c + v + z},
		{0xffff, 5, c + v},
		{0xffff, 0x8000, c + v + n},
		{0xfff0, 1, 0},
		{z + n, 1, 0},
		{z, 0x8000, n},
		{n, 0, z},
		{c, 0xffff, c + n},
		{v, 0x7fff, v},
	} {
		if got := word.With(x.flags, x.r); got != x.want {
			t.Errorf("With(%#x, %#x) is %d; want %d", x.flags, x.r, got, x.want)
		}
	}
	for _, r := range corners {
		for flags := range 0x10000 {
			want := modelHalf(r) + bit(flags/4%2 == 1, c) + bit(flags/8%2 == 1, v)
			if got := word.With(uint16(flags), r); got != want {
				t.Fatalf("With(%#x, %#x) is %d; want %d", flags, r, got, want)
			}
		}
	}
}

type conditionCase struct {
	name  string
	holds func(z, n, c, v bool) bool
}

func conditionTable() []conditionCase {
	return []conditionCase{
		{"eq", func(z, n, c, v bool) bool { return z }},
		{"ne", func(z, n, c, v bool) bool { return !z }},
		{"cs", func(z, n, c, v bool) bool { return c }},
		{"cc", func(z, n, c, v bool) bool { return !c }},
		{"mi", func(z, n, c, v bool) bool { return n }},
		{"pl", func(z, n, c, v bool) bool { return !n }},
		{"vs", func(z, n, c, v bool) bool { return v }},
		{"vc", func(z, n, c, v bool) bool { return !v }},
		{"hi", func(z, n, c, v bool) bool { return c && !z }},
		{"ls", func(z, n, c, v bool) bool { return !c || z }},
		{"ge", func(z, n, c, v bool) bool { return n == v }},
		{"lt", func(z, n, c, v bool) bool { return n != v }},
		{"gt", func(z, n, c, v bool) bool { return !z && n == v }},
		{"le", func(z, n, c, v bool) bool { return z || n != v }},
	}
}

func TestP1_3_Cond(t *testing.T) {
	for cc, x := range conditionTable() {
		for flags := range 0x10000 {
			want := x.holds(flags%2 == 1, flags/2%2 == 1, flags/4%2 == 1, flags/8%2 == 1)
			if got := word.Cond(cc, uint16(flags)); got != want {
				t.Fatalf("Cond(%d, %#x) is %v; want %v (%s)", cc, flags, got, want, x.name)
			}
		}
	}
}

func TestP1_3_CondIsFalseForOtherNumbers(t *testing.T) {
	for _, cc := range extremeInts {
		for flags := range 0x10000 {
			if word.Cond(cc, uint16(flags)) {
				t.Fatalf("Cond(%d, %#x) is true", cc, flags)
			}
		}
	}
}

func TestP1_3_CondName(t *testing.T) {
	for cc, x := range conditionTable() {
		if got := word.CondName(cc); got != x.name {
			t.Errorf("CondName(%d) is %q; want %q", cc, got, x.name)
		}
	}
	for _, cc := range extremeInts {
		if got := word.CondName(cc); got != "" {
			t.Errorf("CondName(%d) is %q; want the empty string", cc, got)
		}
	}
}

func TestP1_3_CondOf(t *testing.T) {
	for cc, x := range conditionTable() {
		if got, ok := word.CondOf(x.name); got != cc || !ok {
			t.Errorf("CondOf(%q) is %d, %v; want %d, true", x.name, got, ok, cc)
		}
	}
	for _, name := range []string{
		"", " ", "e", "q", "EQ", "Eq", "eq ", " eq", "eqq", "eqne", "eq\x00", "\x00", "\xff\xfe", "al", "hs", "lo", "0", "13",
		"le\n", "l", "gtle", strings.Repeat("eq", 1000),
	} {
		if got, ok := word.CondOf(name); got != 0 || ok {
			t.Errorf("CondOf(%q) is %d, %v; want 0, false", name, got, ok)
		}
	}
}

// modelShift shifts by one bit at a time.
func modelShift(kind int, a, count uint16) uint16 {
	x := int(a)
	for range int(count) % 16 {
		switch kind {
		case 0:
			x = x * 2 % 0x10000
		case 1:
			x = x / 2
		case 2:
			x = x/2 + x/0x8000*0x8000
		}
	}
	return uint16(x)
}

func TestP1_4_Shift(t *testing.T) {
	for _, x := range []struct {
		kind       int
		a, n, want uint16
	}{
		{2, 0x8000, 17, 0xc000},
		{0, 3, 15, 0x8000},
		{0, 0xffff, 16, 0xffff},
		{1, 0x8000, 15, 1},
		{1, 0x8000, 32, 0x8000},
		{1, 0xffff, 0xffff, 1},
		{2, 0x7fff, 15, 0},
		{2, 0x8000, 15, 0xffff},
		{2, 0x8000, 0x8000, 0x8000},
		{2, 0x4000, 1, 0x2000},
	} {
		if got := word.Shift(x.kind, x.a, x.n); got != x.want {
			t.Errorf("Shift(%d, %#x, %d) is %#x; want %#x", x.kind, x.a, x.n, got, x.want)
		}
	}
}

func TestP1_4_ShiftAgainstModel(t *testing.T) {
	for kind := range 3 {
		for _, corner := range corners {
			for other := range 0x10000 {
				for _, pair := range [][2]uint16{{corner, uint16(other)}, {uint16(other), corner}} {
					got, want := word.Shift(kind, pair[0], pair[1]), modelShift(kind, pair[0], pair[1])
					if got != want {
						t.Fatalf("Shift(%d, %#x, %d) is %#x; want %#x", kind, pair[0], pair[1], got, want)
					}
				}
			}
		}
	}
}

func TestP1_4_ShiftIsZeroForOtherKinds(t *testing.T) {
	for _, kind := range append([]int{3, 4, 5, 6, 7, 8}, extremeInts...) {
		for _, a := range corners {
			for _, count := range corners {
				if got := word.Shift(kind, a, count); got != 0 {
					t.Fatalf("Shift(%d, %#x, %d) is %#x; want 0", kind, a, count, got)
				}
			}
		}
	}
}

func TestP1_5_Sign(t *testing.T) {
	for b := range 0x100 {
		want := uint16(b)
		if b >= 0x80 {
			want = uint16(b + 0xff00)
		}
		if got := word.Sign(byte(b)); got != want {
			t.Errorf("Sign(%#x) is %#x; want %#x", b, got, want)
		}
	}
}

func TestP1_5_Fits(t *testing.T) {
	for x := range 0x10000 {
		want := x <= 0x7f || x >= 0xff80
		if got := word.Fits(uint16(x)); got != want {
			t.Fatalf("Fits(%#x) is %v; want %v", x, got, want)
		}
	}
}

func TestP1_5_Put(t *testing.T) {
	if got := word.Put(0x1234); got != "\x34\x12" {
		t.Errorf("Put(0x1234) is %q", got)
	}
	for x := range 0x10000 {
		got := word.Put(uint16(x))
		if len(got) != 2 || int(got[0]) != x%0x100 || int(got[1]) != x/0x100 {
			t.Fatalf("Put(%#x) is %q", x, got)
		}
	}
}

func TestP1_5_Get(t *testing.T) {
	for _, x := range []struct {
		s    string
		want uint16
	}{
		{"", 0},
		{"\x05", 5},
		{"\xff", 0xff},
		{"\x00\x05", 0x500},
		{"\x34\x12", 0x1234},
		{"\x80\xff", 0xff80},
		{"\xc3\xa9", 0xa9c3},
		{"\x34\x12\x56", 0x1234},
		{"\x00\x00\xff\xff", 0},
		{strings.Repeat("\xfe", 100000), 0xfefe},
	} {
		if got := word.Get(x.s); got != x.want {
			t.Errorf("Get of %d bytes is %#x; want %#x", len(x.s), got, x.want)
		}
	}
}

// modelSum divides polynomials over bits: the message with its first 16 bits inverted, times x^16, modulo
// x^16 + x^12 + x^5 + 1.
func modelSum(s string) uint16 {
	var bits []bool
	for i := range len(s) {
		for k := 7; k >= 0; k-- {
			bits = append(bits, int(s[i])>>k%2 == 1)
		}
	}
	bits = append(bits, make([]bool, 16)...)
	for i := range 16 {
		bits[i] = !bits[i]
	}
	for i := range len(s) * 8 {
		if bits[i] {
			for _, degree := range []int{16, 12, 5, 0} {
				bits[i+16-degree] = !bits[i+16-degree]
			}
		}
	}
	var remainder uint16
	for _, b := range bits[len(s)*8:] {
		remainder = remainder*2 + bit(b, 1)
	}
	return remainder
}

// scrambled returns bytes that follow no simple pattern; the same seed gives the same bytes.
func scrambled(length int, seed uint32) string {
	bytes := make([]byte, length)
	for i := range bytes {
		seed = seed*1664525 + 1013904223
		bytes[i] = byte(seed >> 24)
	}
	return string(bytes)
}

func TestP1_6_Sum(t *testing.T) {
	for _, x := range []struct {
		s    string
		want uint16
	}{
		{"", 0xffff},
		{"123456789", 0x29b1},
		{"A", 0xb915},
		{"\x00", 0xe1f0},
		{"\xff", 0xff00},
		{"\xff\xff", 0},
		{"\x00\x00", 0x1d0f},
	} {
		if got := word.Sum(x.s); got != x.want {
			t.Errorf("Sum(%q) is %#x; want %#x", x.s, got, x.want)
		}
	}
}

func TestP1_6_SumAgainstModel(t *testing.T) {
	for x := range 0x10000 {
		s := string([]byte{byte(x >> 8), byte(x)})
		for _, s := range []string{s[1:], s, s + "\xe2\x82\xac"} {
			if got, want := word.Sum(s), modelSum(s); got != want {
				t.Fatalf("Sum(%q) is %#x; want %#x", s, got, want)
			}
		}
	}
	for _, length := range []int{3, 4, 7, 8, 9, 15, 16, 17, 255, 256, 257, 4096, 65536, 100001} {
		s := scrambled(length, uint32(length))
		if got, want := word.Sum(s), modelSum(s); got != want {
			t.Errorf("Sum of %d bytes is %#x; want %#x", length, got, want)
		}
	}
}

func TestP1_7_ComplementsOfConditions(t *testing.T) {
	for k := range 7 {
		for flags := range uint16(16) {
			if word.Cond(2*k, flags) == word.Cond(2*k+1, flags) {
				t.Errorf("conditions %d and %d agree for the flags %d", 2*k, 2*k+1, flags)
			}
		}
	}
}

func TestP1_7_ConditionsAfterSub(t *testing.T) {
	for _, a := range corners {
		for other := range 0x10000 {
			b := uint16(other)
			_, flags := word.Sub(a, b, true)
			for cc, want := range map[int]bool{
				api.CcEq: a == b,
				api.CcCs: a >= b,
				api.CcHi: a > b,
				api.CcGe: signedValue(a) >= signedValue(b),
				api.CcGt: signedValue(a) > signedValue(b),
			} {
				if got := word.Cond(cc, flags); got != want {
					t.Fatalf("after Sub(%#x, %#x, true), Cond(%d, %d) is %v; want %v", a, b, cc, flags, got, want)
				}
			}
		}
	}
}

func TestP1_7_GetUndoesPut(t *testing.T) {
	for x := range 0x10000 {
		if got := word.Get(word.Put(uint16(x))); got != uint16(x) {
			t.Fatalf("Get(Put(%#x)) is %#x", x, got)
		}
	}
}

func TestP1_7_SumTellsBurstsApart(t *testing.T) {
	for _, length := range []int{2, 3, 5, 9} {
		base := scrambled(length, 7)
		want := word.Sum(base)
		for start := 0; start+16 <= length*8; start++ {
			for burst := 1; burst < 0x10000; burst += 1 + start%3 {
				if changed := flip(base, start, uint16(burst)); word.Sum(changed) == want {
					t.Fatalf("Sum(%q) is Sum(%q)", changed, base)
				}
			}
		}
	}
}

// flip changes the 16 bits from a start, as the bits of burst that are 1 say; the highest bit of a byte is its first one.
func flip(s string, start int, burst uint16) string {
	bytes := []byte(s)
	for k := range 16 {
		at := start + k
		bytes[at/8] ^= byte(burst>>(15-k)&1) << (7 - at%8)
	}
	return string(bytes)
}

func TestP1_7_SubUndoesAdd(t *testing.T) {
	for _, b := range corners {
		for a := range 0x10000 {
			for _, carry := range []bool{false, true} {
				sum, _ := word.Add(uint16(a), b, carry)
				if got, _ := word.Sub(sum, b, !carry); got != uint16(a) {
					t.Fatalf("Sub(Add(%#x, %#x, %v), %#x, %v) is %#x", a, b, carry, b, !carry, got)
				}
			}
		}
	}
}

// P1 and R4: calls terminate for all arguments, and their results do not depend on earlier calls.
func TestP1_CallsAreIndependent(t *testing.T) {
	type results struct {
		sum, sumFlags, difference, differenceFlags uint16
		half, with, shift, sign, get, checksum     uint16
		holds, known, fits                         bool
		condition                                  int
		name, bytes                                string
	}
	call := func(number int, a, b uint16) results {
		var x results
		x.sum, x.sumFlags = word.Add(a, b, a < b)
		x.difference, x.differenceFlags = word.Sub(a, b, a < b)
		x.half, x.with, x.shift = word.Half(a), word.With(a, b), word.Shift(number, a, b)
		x.sign, x.get, x.checksum = word.Sign(byte(a)), word.Get(word.Put(a)), word.Sum(word.Put(b))
		x.holds, x.fits = word.Cond(number, a), word.Fits(a)
		x.name, x.bytes = word.CondName(number), word.Put(b)
		x.condition, x.known = word.CondOf(word.CondName(number))
		return x
	}
	numbers := append([]int{0, 1, 2, 3, 7, 13}, extremeInts...)
	first := map[[3]int]results{}
	for round := range 2 {
		for _, number := range numbers {
			for _, a := range corners {
				for _, b := range corners {
					key := [3]int{number, int(a), int(b)}
					got := call(number, a, b)
					if round == 1 && got != first[key] {
						t.Fatalf("calls with %v are %v first and %v later", key, first[key], got)
					}
					first[key] = got
				}
			}
		}
	}
}
