package ir_test

import (
	"math"
	"slices"
	"strings"

	"vellum/api"
	"vellum/ir"
)

// words are at the borders of what operations accept and do.
var words = []uint16{
	0, 1, 2, 3, 5, 7, 15, 16, 17, 31, 32, 0x7f, 0x80, 0xff, 0x100, 0x1234, 0x0ffe, 0x0fff, 0x1000, 0x1001, 0x2000, 0x3ffe, 0x3fff, 0x4000, 0x4001,
	0x4abc, 0x5ffd, 0x5ffe, 0x5fff, 0x6000, 0x6001, 0x7ffe, 0x7fff, 0x8000, 0x8001, 0xaaaa, 0xc000, 0xff7f, 0xff80, 0xfffd, 0xfffe, 0xffff,
}

// farNumbers are not numbers of anything; some of them are, if their highest bits are cut off.
var farNumbers = []int{
	-2, -3, 1 << 16, 1<<16 + 1, 1 << 17, 1<<31 - 1, 1 << 31, 1 << 32, 1<<32 + 1, -1 << 16, -1 << 31, -1 << 32, 1 - 1<<32, math.MinInt, math.MinInt + 1, math.MaxInt - 1, math.MaxInt,
}

// codes are the codes of all operations, and kinds those of all terminators.
var (
	codes = numbersFrom(api.IConst, api.IPoll)
	kinds = numbersFrom(api.TJump, api.THalt)
)

func numbersFrom(first, last int) []int {
	var list []int
	for n := first; n <= last; n++ {
		list = append(list, n)
	}
	return list
}

// numberedBank returns a bank with different words, also from one offset to the next.
func numberedBank(seed int) string {
	b := make([]byte, api.BankSize)
	for k := range b {
		b[k] = byte(k*7 + k/256 + seed)
	}
	return string(b)
}

var zeroBank = strings.Repeat("\x00", api.BankSize)

func list(numbers ...int) []int { return numbers }

func konst(res int, n uint16) api.IrOp { return api.IrOp{Code: api.IConst, Res: res, N: n} }

func object(res, o int, n uint16) api.IrOp { return api.IrOp{Code: api.IObj, Res: res, A: o, N: n} }

func unary(code, res, a int) api.IrOp { return api.IrOp{Code: code, Res: res, A: a} }

func binary(code, res, a, b int) api.IrOp { return api.IrOp{Code: code, Res: res, A: a, B: b} }

func store(code, a, b int) api.IrOp { return api.IrOp{Code: code, Res: -1, A: a, B: b} }

func rom(code, res, a int, bank uint16) api.IrOp {
	return api.IrOp{Code: code, Res: res, A: a, N: bank}
}

func in(res int, port uint16) api.IrOp { return api.IrOp{Code: api.IIn, Res: res, N: port} }

func out(a int, port uint16) api.IrOp { return api.IrOp{Code: api.IOut, Res: -1, A: a, N: port} }

func call(res, f int, args ...int) api.IrOp {
	return api.IrOp{Code: api.ICall, Res: res, A: f, Args: args}
}

func poll() api.IrOp { return api.IrOp{Code: api.IPoll, Res: -1} }

func edge(block int, args ...int) api.Edge { return api.Edge{Block: block, Args: args} }

func jump(block int, args ...int) api.Term {
	return api.Term{Kind: api.TJump, To: []api.Edge{edge(block, args...)}}
}

func branch(a int, to ...api.Edge) api.Term { return api.Term{Kind: api.TBranch, A: a, To: to} }

func choose(a int, to ...api.Edge) api.Term { return api.Term{Kind: api.TSwitch, A: a, To: to} }

func ret(a int) api.Term { return api.Term{Kind: api.TReturn, A: a} }

func halt() api.Term { return api.Term{Kind: api.THalt} }

// block returns a block whose operations come before its terminator.
func block(params []int, term api.Term, ops ...api.IrOp) api.IrBlock {
	return api.IrBlock{Params: params, Ops: ops, Term: term}
}

func function(blocks ...api.IrBlock) api.IrFunc { return api.IrFunc{Blocks: blocks} }

// The functions of a program that program returns.
const (
	halts    = 0 // the entry: it ends with trap Halt
	tested   = 1
	external = 2 // it takes one argument
	doubles  = 3 // it returns its argument times 2
	silent   = 4 // it outputs 99 to port 99, and returns no value
)

// program returns a program with a function that takes some arguments, other functions, objects and banks.
func program(args int, blocks ...api.IrBlock) api.IrProg {
	return api.IrProg{
		Funcs: []api.IrFunc{
			function(block(nil, halt())),
			{Blocks: blocks},
			{},
			function(block(list(5), ret(6), binary(api.IAdd, 6, 5, 5))),
			function(block(nil, ret(-1), konst(0, 99), out(0, 99))),
		},
		Args:    list(0, args, 1, 1, 0),
		Handler: -1,
		Data:    []api.Object{{Bank: api.RamBank, Addr: 0x4010, Size: 4}, {Bank: 1, Addr: 0x20, Size: 8}},
		Banks:   []string{numberedBank(3), numberedBank(100)},
	}
}

// straight returns a program with a function of one block without parameters, which returns a value.
func straight(returned int, ops ...api.IrOp) api.IrProg {
	return program(0, block(nil, ret(returned), ops...))
}

func changed(p api.IrProg, changes ...func(*api.IrProg)) api.IrProg {
	p = cloned(p)
	for _, change := range changes {
		change(&p)
	}
	return p
}

// cloned returns a program that shares no memory with another one, but for strings.
func cloned(p api.IrProg) api.IrProg {
	p.Funcs = slices.Clone(p.Funcs)
	for n := range p.Funcs {
		p.Funcs[n] = clonedFunction(p.Funcs[n])
	}
	p.Args, p.Data, p.Banks = slices.Clone(p.Args), slices.Clone(p.Data), slices.Clone(p.Banks)
	return p
}

func clonedFunction(f api.IrFunc) api.IrFunc {
	f.Blocks = slices.Clone(f.Blocks)
	for b := range f.Blocks {
		x := &f.Blocks[b]
		x.Params, x.Ops, x.Term.To = slices.Clone(x.Params), slices.Clone(x.Ops), slices.Clone(x.Term.To)
		for k := range x.Ops {
			x.Ops[k].Args = slices.Clone(x.Ops[k].Args)
		}
		for k := range x.Term.To {
			x.Term.To[k].Args = slices.Clone(x.Term.To[k].Args)
		}
	}
	return f
}

func sameFunction(a, b api.IrFunc) bool {
	sameOp := func(x, y api.IrOp) bool {
		return x.Code == y.Code && x.Res == y.Res && x.A == y.A && x.B == y.B && x.N == y.N && slices.Equal(x.Args, y.Args)
	}
	sameEdge := func(x, y api.Edge) bool { return x.Block == y.Block && slices.Equal(x.Args, y.Args) }
	return slices.EqualFunc(a.Blocks, b.Blocks, func(x, y api.IrBlock) bool {
		return slices.Equal(x.Params, y.Params) && slices.EqualFunc(x.Ops, y.Ops, sameOp) &&
			x.Term.Kind == y.Term.Kind && x.Term.A == y.Term.A && slices.EqualFunc(x.Term.To, y.Term.To, sameEdge)
	})
}

func sameProgram(a, b api.IrProg) bool {
	return slices.EqualFunc(a.Funcs, b.Funcs, sameFunction) && slices.Equal(a.Args, b.Args) &&
		a.Entry == b.Entry && a.Handler == b.Handler && slices.Equal(a.Data, b.Data) && slices.Equal(a.Banks, b.Banks)
}

func sameRun(a, b api.Run) bool {
	return a.Value == b.Value && slices.Equal(a.Out, b.Out) && a.Trap == b.Trap && a.Ram == b.Ram && a.Inputs == b.Inputs && a.Polls == b.Polls
}

func isZeroRun(r api.Run) bool { return sameRun(r, api.Run{}) }

// brief returns a run without its RAM, which is long.
func brief(r api.Run) api.Run {
	r.Ram = ""
	return r
}

// printed returns all functions of a program as text.
func printed(p api.IrProg) string {
	var text strings.Builder
	for _, f := range p.Funcs {
		text.WriteString(ir.Print(f) + "\n")
	}
	return text.String()
}

// random is a sequence of numbers that is the same in each run.
type random uint64

func (r *random) next() uint64 {
	*r += 0x9e3779b97f4a7c15
	x := uint64(*r)
	x = (x ^ x>>30) * 0xbf58476d1ce4e5b9
	x = (x ^ x>>27) * 0x94d049bb133111eb
	return x ^ x>>31
}

func (r *random) below(n int) int { return int(r.next() % uint64(n)) }

func (r *random) word() uint16 {
	if r.below(2) == 0 {
		return words[r.below(len(words))]
	}
	return uint16(r.next())
}

func (r *random) words(n int) []uint16 {
	var list []uint16
	for range n {
		list = append(list, r.word())
	}
	return list
}

// permutation returns the numbers below n in some order.
func (r *random) permutation(n int) []int {
	var list []int
	for k := range n {
		list = slices.Insert(list, r.below(k+1), k)
	}
	return list
}
