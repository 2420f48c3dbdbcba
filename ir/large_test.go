package ir_test

import (
	"runtime/debug"
	"slices"
	"strings"
	"testing"

	"vellum/api"
	"vellum/ir"
)

// chain returns a function with a value of block 0 that all blocks use, of which each leads to the next one.
func chain(blocks int) []api.IrBlock {
	list := make([]api.IrBlock, blocks)
	for b := range list {
		list[b] = block(nil, jump(b+1), out(0, 1))
	}
	list[0].Ops = []api.IrOp{konst(0, 7), out(0, 1)}
	list[blocks-1].Term = ret(0)
	return list
}

func TestP1_DeepFunctions(t *testing.T) {
	// An overflow of the stack would end the tests; to follow the dominators of each use would take minutes.
	defer debug.SetMaxStack(debug.SetMaxStack(16 << 20))
	const blocks = 200000
	p := program(0, chain(blocks)...)
	if e := ir.Valid(p); e != api.OK {
		t.Fatalf("a deep function: %v", e)
	}
	got := ir.Eval(p, tested, nil, "", api.Tape{}, 2*blocks+1)
	if got.Trap.Kind != api.Return || got.Value != 7 || len(got.Out) != blocks {
		t.Errorf("a deep function: %+v, %d events", got.Trap, len(got.Out))
	}
	if g := ir.Graph(p.Funcs[tested]); len(g.Succ) != blocks || g.Succ[blocks-2][0] != blocks-1 {
		t.Errorf("the graph of a deep function: %d nodes", len(g.Succ))
	}
	if lines := strings.Count(ir.Print(p.Funcs[tested]), "\n"); lines != 3*blocks+1 {
		t.Errorf("a deep function: %d lines", lines)
	}
	p.Funcs[tested].Blocks[blocks-2].Ops[0].A = 1
	p.Funcs[tested].Blocks[blocks-1].Ops = []api.IrOp{konst(1, 1)}
	if e := ir.Valid(p); e != api.ErrGraph {
		t.Errorf("a deep function with a value that is used too early: %v", e)
	}
}

func TestP1_WideFunctions(t *testing.T) {
	const edges = 300000
	to := make([]api.Edge, edges)
	for k := range to {
		to[k] = edge(1, 0)
	}
	p := program(1, block(list(0), choose(0, to...)), block(list(1), ret(1)))
	if e := ir.Valid(p); e != api.OK {
		t.Errorf("many edges: %v", e)
	}
	if got := ir.Eval(p, tested, []uint16{0xffff}, "", api.Tape{}, 2); got.Value != 0xffff {
		t.Errorf("many edges: %+v", brief(got))
	}
	to[edges-1] = edge(2)
	if e := ir.Valid(p); e != api.ErrGraph {
		t.Errorf("a wrong edge behind many: %v", e)
	}
}

func TestP7_1_AllValues(t *testing.T) {
	ops := []api.IrOp{konst(65535, 1)}
	for v := 65534; v >= 0; v-- {
		ops = append(ops, binary(api.IAdd, v, v+1, 65535))
	}
	p := straight(0, ops...)
	checkRun(t, "all values", startOf(p), returns(0)) // 1 was added 65535 times to 1
	p = straight(0, append(ops, konst(0, 1))...)
	checkValid(t, "a value again, behind all values", p, api.ErrGraph)
	p = straight(0, append(ops, konst(65536, 1))...)
	checkValid(t, "one more than all values", p, api.ErrGraph)
	var params, args []int
	for v := range 65536 {
		params, args = append(params, 65535-v), append(args, 5)
	}
	p = program(0, block(nil, jump(1), call(-1, silent)), block(nil, jump(2, args...), konst(5, 9)), block(params, ret(-1)))
	checkValid(t, "all values and one more", p, api.ErrGraph)
	p.Funcs[tested].Blocks[2].Params = slices.DeleteFunc(params, func(v int) bool { return v == 5 })
	p.Funcs[tested].Blocks[1].Term.To[0].Args = args[1:]
	p.Funcs[tested].Blocks[2].Term = ret(65535)
	checkRun(t, "a block with almost all values", startOf(p), returns(9, api.Event{Port: 99, Value: 99}))
}

func TestP7_1_ManyFunctionsWithGreatValues(t *testing.T) {
	// Also such a program is checked and evaluated fast.
	p := externals(2000, 512, 64)
	for n := range p.Funcs {
		p.Funcs[n] = function(block(nil, ret(65535), konst(65535, uint16(n))))
		if n < 1999 {
			p.Funcs[n].Blocks[0].Ops = append(p.Funcs[n].Blocks[0].Ops, konst(n, 5))
		}
	}
	for n := range 20 {
		if got := ir.Eval(p, 100*n, nil, "", api.Tape{}, 3); got.Value != uint16(100*n) || got.Trap.Kind != api.Return {
			t.Errorf("function %d: %+v", 100*n, brief(got))
		}
	}
	p.Funcs[1999] = function(block(nil, ret(1998), konst(65535, 1)))
	if e := ir.Valid(p); e != api.ErrGraph {
		t.Errorf("a value of the function before: %v", e)
	}
}

func TestP1_ArbitraryArguments(t *testing.T) {
	r := random(31)
	for n := range 2000 {
		p := r.program(n%4 == 0)
		for range r.below(20) {
			r.spoil(&p)
		}
		s := r.start(changed(p, func(p *api.IrProg) { p.Args = slices.Repeat(list(0), len(p.Funcs)) }))
		s.p = p
		if r.below(2) == 0 {
			s.f = r.number()
		}
		s.args = r.words(r.below(4))
		s.fuel = r.below(200) - 10
		if ir.Valid(p) != api.OK && !isZeroRun(s.run()) {
			t.Fatalf("an invalid program is evaluated: %s", printed(p))
		}
		s.run()
		for _, f := range p.Funcs {
			ir.Print(f)
			ir.Count(f)
			ir.Graph(f)
		}
	}
}
