package ir_test

import (
	"fmt"
	"strings"

	"vellum/api"
)

// modelFields tells the fields of each operation: R a value that it defines, r the same or -1, A and B values that it
// uses, O the number of an object, F the number of a function with the arguments for it, N any number, P a port.
var modelFields = map[int]string{
	api.IConst: "RN", api.IObj: "RON", api.INeg: "RA", api.INot: "RA", api.IAdd: "RAB", api.ISub: "RAB", api.IMul: "RAB", api.IDiv: "RAB",
	api.IAnd: "RAB", api.IOr: "RAB", api.IXor: "RAB", api.IShl: "RAB", api.IShr: "RAB", api.ISar: "RAB", api.IEq: "RAB", api.ILtu: "RAB",
	api.ILts: "RAB", api.ILoad: "RA", api.ILoadb: "RA", api.IStore: "AB", api.IStoreb: "AB", api.IRom: "RAN", api.IRomb: "RAN",
	api.IIn: "RP", api.IOut: "AP", api.ICall: "rF", api.IPoll: "",
}

// modelValid follows P7.1 sentence by sentence.
func modelValid(p api.IrProg) api.Errno {
	if len(p.Funcs) > 2000 || len(p.Data) > 512 || len(p.Banks) > 64 {
		return api.ErrMany
	}
	if len(p.Args) != len(p.Funcs) {
		return api.ErrArg
	}
	for _, n := range p.Args {
		if n < 0 || n > 8 {
			return api.ErrArg
		}
	}
	for k, f := range []int{p.Entry, p.Handler} {
		if isAbsentHandler := k == 1 && f == -1; !isAbsentHandler && (f < 0 || f >= len(p.Funcs) || p.Args[f] != 0) {
			return api.ErrArg
		}
	}
	if !modelPlaces(p) {
		return api.ErrPlace
	}
	for n, f := range p.Funcs {
		if len(f.Blocks) > 0 && !modelFunction(p, n) {
			return api.ErrGraph
		}
	}
	return api.OK
}

// modelPlaces notes all bytes of the objects.
func modelPlaces(p api.IrProg) bool {
	for _, b := range p.Banks {
		if len(b) != 4096 {
			return false
		}
	}
	taken := map[[2]int]bool{}
	for _, o := range p.Data {
		if o.Size == 0 || o.Bank != api.RamBank && (o.Bank < 0 || o.Bank >= len(p.Banks)) {
			return false
		}
		for a := int(o.Addr); a < int(o.Addr)+int(o.Size); a++ {
			lies := a <= 4095
			if o.Bank == api.RamBank {
				lies = a >= 0x4000 && a <= 0x5fff
			}
			if !lies || taken[[2]int{o.Bank, a}] {
				return false
			}
			taken[[2]int{o.Bank, a}] = true
		}
	}
	return true
}

// modelSpot is where a value is defined: in a block, before the operation with a number.
type modelSpot struct{ block, before int }

func modelFunction(p api.IrProg, n int) bool {
	blocks := p.Funcs[n].Blocks
	if len(blocks[0].Params) != p.Args[n] {
		return false
	}
	defined := map[int]modelSpot{}
	define := func(v, block, before int) bool {
		_, twice := defined[v]
		defined[v] = modelSpot{block, before}
		return !twice && v >= 0 && v <= 65535
	}
	for b, x := range blocks {
		for _, v := range x.Params {
			if !define(v, b, 0) {
				return false
			}
		}
		for k, o := range x.Ops {
			if !modelListed(p, o) || o.Res != -1 && !define(o.Res, b, k+1) {
				return false
			}
		}
		if !modelTerm(blocks, x.Term) {
			return false
		}
	}
	for b := range blocks {
		if !modelReach(blocks, -1)[b] {
			return false
		}
	}
	for b, x := range blocks {
		for k, o := range x.Ops {
			if !modelUses(blocks, defined, modelUsed(o), modelSpot{b, k}) {
				return false
			}
		}
		if !modelUses(blocks, defined, modelUsedAtEnd(x.Term), modelSpot{b, len(x.Ops)}) {
			return false
		}
	}
	return true
}

// modelListed reports whether an operation has the fields of the table, and no others.
func modelListed(p api.IrProg, o api.IrOp) bool {
	fields, ok := modelFields[o.Code]
	has := func(letter string) bool { return strings.Contains(fields, letter) }
	if !ok || has("R") && o.Res == -1 || !has("R") && !has("r") && o.Res != -1 {
		return false
	}
	if has("O") && (o.A < 0 || o.A >= len(p.Data)) || has("P") && (o.N < 1 || o.N > 255) {
		return false
	}
	if has("F") && (o.A < 0 || o.A >= len(p.Funcs) || len(o.Args) != p.Args[o.A]) {
		return false
	}
	return (has("A") || has("O") || has("F") || o.A == 0) && (has("B") || o.B == 0) && (has("N") || has("P") || o.N == 0) && (has("F") || len(o.Args) == 0)
}

func modelTerm(blocks []api.IrBlock, t api.Term) bool {
	for _, e := range t.To {
		if e.Block <= 0 || e.Block >= len(blocks) || len(e.Args) != len(blocks[e.Block].Params) {
			return false
		}
	}
	switch t.Kind {
	case api.TJump:
		return len(t.To) == 1 && t.A == 0
	case api.TBranch:
		return len(t.To) == 2
	case api.TSwitch:
		return len(t.To) >= 1
	case api.TReturn:
		return len(t.To) == 0
	case api.THalt:
		return len(t.To) == 0 && t.A == 0
	}
	return false
}

// modelReach tells which blocks can be reached from block 0 without another one (or -1).
func modelReach(blocks []api.IrBlock, without int) []bool {
	reached := make([]bool, len(blocks))
	var visit func(b int)
	visit = func(b int) {
		if b == without || reached[b] {
			return
		}
		reached[b] = true
		for _, e := range blocks[b].Term.To {
			visit(e.Block)
		}
	}
	visit(0)
	return reached
}

func modelUsed(o api.IrOp) []int {
	var used []int
	if strings.Contains(modelFields[o.Code], "A") {
		used = append(used, o.A)
	}
	if strings.Contains(modelFields[o.Code], "B") {
		used = append(used, o.B)
	}
	return append(used, o.Args...)
}

func modelUsedAtEnd(t api.Term) []int {
	var used []int
	if t.Kind == api.TBranch || t.Kind == api.TSwitch || t.Kind == api.TReturn && t.A != -1 {
		used = append(used, t.A)
	}
	for _, e := range t.To {
		used = append(used, e.Args...)
	}
	return used
}

// modelUses reports whether values may be used at a spot: a block dominates another one if that cannot be reached
// without it.
func modelUses(blocks []api.IrBlock, defined map[int]modelSpot, used []int, at modelSpot) bool {
	for _, v := range used {
		d, ok := defined[v]
		if !ok {
			return false
		}
		if d.block == at.block {
			if d.before > at.before {
				return false
			}
		} else if modelReach(blocks, d.block)[at.block] {
			return false
		}
	}
	return true
}

// modelMachine evaluates a valid program; words are numbers from 0 to 65535. end is the trap that has ended it, if any.
type modelMachine struct {
	p    api.IrProg
	t    api.Tape
	fuel int
	ram  []int // from 0x4000 on
	run  api.Run
	end  api.Trap
}

// modelEval follows P7.2 sentence by sentence.
func modelEval(p api.IrProg, f int, args []uint16, ram string, t api.Tape, fuel int) api.Run {
	if modelValid(p) != api.OK || f < 0 || f >= len(p.Funcs) || len(args) != p.Args[f] {
		return api.Run{}
	}
	m := &modelMachine{p: p, t: t, fuel: fuel, ram: make([]int, 8192)}
	for k := range min(len(ram), 8192) {
		m.ram[k] = int(ram[k])
	}
	var numbers []int
	for _, w := range args {
		numbers = append(numbers, int(w))
	}
	if value := m.call(f, numbers, 1); m.end.Kind == api.NoTrap {
		m.run.Value = uint16(value)
		m.end.Kind = api.Return
	}
	var bytes []byte
	for _, b := range m.ram {
		bytes = append(bytes, byte(b))
	}
	m.run.Trap, m.run.Ram = m.end, string(bytes)
	return m.run
}

func (m *modelMachine) trap(kind, info int) int {
	m.end = api.Trap{Kind: kind, Info: uint16(info)}
	return 0
}

// pay takes a unit of fuel, and reports whether there was one.
func (m *modelMachine) pay() bool {
	if m.fuel < 1 {
		m.trap(api.Budget, 0)
		return false
	}
	m.fuel--
	return true
}

func (m *modelMachine) call(f int, args []int, depth int) int {
	if depth > 100 {
		return m.trap(api.Stack, 0)
	}
	blocks := m.p.Funcs[f].Blocks
	if len(blocks) == 0 {
		return m.trap(api.Extern, f)
	}
	values := map[int]int{}
	word := func(v int) int {
		w, ok := values[v]
		if !ok {
			panic(fmt.Sprintf("value %d of a valid function is not defined", v))
		}
		return w
	}
	for b := 0; ; {
		for k, v := range blocks[b].Params {
			values[v] = args[k]
		}
		for _, o := range blocks[b].Ops {
			if !m.pay() {
				return 0
			}
			result := m.execute(o, word, depth)
			if m.end.Kind != api.NoTrap {
				return 0
			}
			if o.Res != -1 {
				values[o.Res] = result
			}
		}
		if !m.pay() {
			return 0
		}
		t := blocks[b].Term
		var next int
		switch t.Kind {
		case api.THalt:
			return m.trap(api.Halt, 0)
		case api.TReturn:
			if t.A == -1 {
				return 0
			}
			return word(t.A)
		case api.TBranch:
			if word(t.A) == 0 {
				next = 1
			}
		case api.TSwitch:
			next = len(t.To) - 1
			if word(t.A) < len(t.To)-1 {
				next = word(t.A)
			}
		}
		args = nil
		for _, v := range t.To[next].Args {
			args = append(args, word(v))
		}
		b = t.To[next].Block
	}
}

// execute returns the result of an operation, if it has one, or sets the trap.
func (m *modelMachine) execute(o api.IrOp, word func(int) int, depth int) int {
	switch o.Code {
	case api.IConst:
		return int(o.N)
	case api.IObj:
		return (int(m.p.Data[o.A].Addr) + int(o.N)) % 65536
	case api.INeg:
		return (65536 - word(o.A)) % 65536
	case api.INot:
		return 65535 - word(o.A)
	case api.ILoad, api.ILoadb, api.IStore, api.IStoreb:
		return m.access(o, word)
	case api.IRom, api.IRomb:
		return m.constant(o, word(o.A))
	case api.IIn:
		if m.run.Inputs == len(m.t.In) {
			return 0
		}
		m.run.Inputs++
		return int(m.t.In[m.run.Inputs-1])
	case api.IOut:
		m.run.Out = append(m.run.Out, api.Event{Port: o.N, Value: uint16(word(o.A))})
		return 0
	case api.ICall:
		var args []int
		for _, v := range o.Args {
			args = append(args, word(v))
		}
		return m.call(o.A, args, depth+1)
	case api.IPoll:
		if m.run.Polls < len(m.t.Irq) {
			m.run.Polls++
			if m.t.Irq[m.run.Polls-1] != 0 && m.p.Handler != -1 {
				m.call(m.p.Handler, nil, depth+1)
			}
		}
		return 0
	}
	if o.Code == api.IDiv && word(o.B) == 0 {
		return m.trap(api.Divide, 0)
	}
	return modelArithmetic(o.Code, word(o.A), word(o.B))
}

func (m *modelMachine) access(o api.IrOp, word func(int) int) int {
	addresses := []int{word(o.A)}
	if o.Code == api.ILoad || o.Code == api.IStore {
		addresses = append(addresses, (word(o.A)+1)%65536)
	}
	for _, a := range addresses {
		if a < 0x4000 || a > 0x5fff {
			return m.trap(api.Fault, a)
		}
	}
	result := 0
	for k, a := range addresses {
		if o.Code == api.IStore || o.Code == api.IStoreb {
			m.ram[a-0x4000] = word(o.B) >> (8 * k) % 256
		}
		result += m.ram[a-0x4000] << (8 * k)
	}
	return result
}

func (m *modelMachine) constant(o api.IrOp, off int) int {
	offsets := []int{off}
	if o.Code == api.IRom {
		offsets = append(offsets, (off+1)%65536)
	}
	result := 0
	for k, a := range offsets {
		if int(o.N) >= len(m.p.Banks) || a >= 4096 {
			return m.trap(api.Fault, a)
		}
		result += int(m.p.Banks[o.N][a]) << (8 * k)
	}
	return result
}

func modelArithmetic(code, a, b int) int {
	signed := func(w int) int { return (w+32768)%65536 - 32768 }
	truth := map[bool]int{true: 1}
	bits := func(bit func(x, y int) bool) int {
		result := 0
		for k := range 16 {
			result += truth[bit(a>>k%2, b>>k%2)] << k
		}
		return result
	}
	switch code {
	case api.IAdd:
		return (a + b) % 65536
	case api.ISub:
		return (a - b + 65536) % 65536
	case api.IMul:
		return a * b % 65536
	case api.IDiv:
		return a / b
	case api.IAnd:
		return bits(func(x, y int) bool { return x == 1 && y == 1 })
	case api.IOr:
		return bits(func(x, y int) bool { return x == 1 || y == 1 })
	case api.IXor:
		return bits(func(x, y int) bool { return x != y })
	case api.IEq:
		return truth[a == b]
	case api.ILtu:
		return truth[a < b]
	case api.ILts:
		return truth[signed(a) < signed(b)]
	}
	for range b % 16 {
		switch code {
		case api.IShl:
			a = a * 2 % 65536
		case api.IShr:
			a = a / 2
		case api.ISar:
			a = a/2 + a/32768*32768
		}
	}
	return a
}

// modelTexts are the texts of the operations; the letters A, B, N stand for numbers, and L for a list of values.
var modelTexts = map[int]string{
	api.IConst: "const N", api.IObj: "obj A + N", api.INeg: "neg vA", api.INot: "not vA", api.IAdd: "add vA, vB", api.ISub: "sub vA, vB",
	api.IMul: "mul vA, vB", api.IDiv: "div vA, vB", api.IAnd: "and vA, vB", api.IOr: "or vA, vB", api.IXor: "xor vA, vB", api.IShl: "shl vA, vB",
	api.IShr: "shr vA, vB", api.ISar: "sar vA, vB", api.IEq: "eq vA, vB", api.ILtu: "ltu vA, vB", api.ILts: "lts vA, vB", api.ILoad: "load vA",
	api.ILoadb: "loadb vA", api.IStore: "store vA, vB", api.IStoreb: "storeb vA, vB", api.IRom: "rom N, vA", api.IRomb: "romb N, vA",
	api.IIn: "in N", api.IOut: "out N, vA", api.ICall: "call fA(L)", api.IPoll: "poll",
}

func modelList(values []int) string {
	text := ""
	for k, v := range values {
		if k > 0 {
			text += ", "
		}
		text += fmt.Sprintf("v%d", v)
	}
	return text
}

func modelOperation(o api.IrOp) string {
	text, ok := modelTexts[o.Code]
	if !ok {
		text = "?"
	}
	text = strings.NewReplacer("A", fmt.Sprint(o.A), "B", fmt.Sprint(o.B), "N", fmt.Sprint(o.N), "L", modelList(o.Args)).Replace(text)
	if o.Res != -1 {
		text = fmt.Sprintf("v%d = %s", o.Res, text)
	}
	return text
}

func modelTerminator(t api.Term) string {
	edges := ""
	for k, e := range t.To {
		if k > 0 {
			edges += ", "
		}
		edges += fmt.Sprintf("b%d(%s)", e.Block, modelList(e.Args))
	}
	switch {
	case t.Kind == api.TJump:
		return "jump " + edges
	case t.Kind == api.TBranch:
		return fmt.Sprintf("branch v%d, %s", t.A, edges)
	case t.Kind == api.TSwitch:
		return fmt.Sprintf("switch v%d, %s", t.A, edges)
	case t.Kind == api.TReturn && t.A == -1:
		return "return"
	case t.Kind == api.TReturn:
		return fmt.Sprintf("return v%d", t.A)
	case t.Kind == api.THalt:
		return "halt"
	}
	return "?"
}

func modelPrint(f api.IrFunc) string {
	if len(f.Blocks) == 0 {
		return "extern\n"
	}
	text := ""
	for b, x := range f.Blocks {
		text += fmt.Sprintf("b%d(%s):\n", b, modelList(x.Params))
		for _, o := range x.Ops {
			text += "  " + modelOperation(o) + "\n"
		}
		text += "  " + modelTerminator(x.Term) + "\n"
	}
	return text
}

// modelCount looks for the least number.
func modelCount(f api.IrFunc) int {
	for n := 0; ; n++ {
		isGreater := true
		for _, x := range f.Blocks {
			for _, v := range x.Params {
				isGreater = isGreater && n > v
			}
			for _, o := range x.Ops {
				isGreater = isGreater && n > o.Res
			}
		}
		if isGreater {
			return n
		}
	}
}
