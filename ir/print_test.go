package ir_test

import (
	"math"
	"slices"
	"testing"

	"vellum/api"
	"vellum/ir"
)

func checkPrint(t *testing.T, f api.IrFunc, want string) {
	t.Helper()
	if got := ir.Print(f); got != want {
		t.Errorf("Print: %q, want %q", got, want)
	}
	if got := modelPrint(f); got != want {
		t.Errorf("the model contradicts the test: %q, want %q", got, want)
	}
}

func TestP7_5_Print(t *testing.T) {
	checkPrint(t, api.IrFunc{}, "extern\n")
	checkPrint(t, api.IrFunc{Blocks: []api.IrBlock{}}, "extern\n")
	checkPrint(t, function(block(nil, halt())), "b0():\n  halt\n")
	checkPrint(t, function(api.IrBlock{}), "b0():\n  ?\n")
	checkPrint(t, function(block(list(0), jump(1, 0, 3)), block(list(1, 2), branch(1, edge(2), edge(1, 2, 1)), konst(3, 65535)), block(list(), ret(-1), poll())),
		"b0(v0):\n  jump b1(v0, v3)\nb1(v1, v2):\n  v3 = const 65535\n  branch v1, b2(), b1(v2, v1)\nb2():\n  poll\n  return\n")
	checkPrint(t, program(1, block(list(0), jump(1, 0)), block(list(1), branch(1, edge(2), edge(3))), block(nil, jump(1, 3), konst(2, 1), binary(api.ISub, 3, 1, 2)), block(nil, ret(1))).Funcs[tested],
		"b0(v0):\n  jump b1(v0)\nb1(v1):\n  branch v1, b2(), b3()\nb2():\n  v2 = const 1\n  v3 = sub v1, v2\n  jump b1(v3)\nb3():\n  return v1\n")
}

func TestP7_5_Operations(t *testing.T) {
	for code, want := range map[int]string{
		api.IConst: "const 7", api.IObj: "obj 11 + 7", api.INeg: "neg v11", api.INot: "not v11", api.IAdd: "add v11, v12", api.ISub: "sub v11, v12",
		api.IMul: "mul v11, v12", api.IDiv: "div v11, v12", api.IAnd: "and v11, v12", api.IOr: "or v11, v12", api.IXor: "xor v11, v12",
		api.IShl: "shl v11, v12", api.IShr: "shr v11, v12", api.ISar: "sar v11, v12", api.IEq: "eq v11, v12", api.ILtu: "ltu v11, v12", api.ILts: "lts v11, v12",
		api.ILoad: "load v11", api.ILoadb: "loadb v11", api.IStore: "store v11, v12", api.IStoreb: "storeb v11, v12", api.IRom: "rom 7, v11", api.IRomb: "romb 7, v11",
		api.IIn: "in 7", api.IOut: "out 7, v11", api.ICall: "call f11(v13, v14)", api.IPoll: "poll",
		0: "?", -1: "?", 28: "?", 99: "?", math.MaxInt: "?", math.MinInt: "?", api.IConst + 1<<32: "?",
	} {
		// All fields have numbers, of which only those that belong to the operation are printed, and Res always.
		o := api.IrOp{Code: code, Res: 20, A: 11, B: 12, N: 7, Args: list(13, 14)}
		checkPrint(t, function(block(nil, halt(), o)), "b0():\n  v20 = "+want+"\n  halt\n")
		o.Res = -1
		checkPrint(t, function(block(nil, halt(), o)), "b0():\n  "+want+"\n  halt\n")
		o.Res = 0
		checkPrint(t, function(block(nil, halt(), o)), "b0():\n  v0 = "+want+"\n  halt\n")
		o.Res = -2
		checkPrint(t, function(block(nil, halt(), o)), "b0():\n  v-2 = "+want+"\n  halt\n")
	}
	for _, args := range [][]int{nil, {}} {
		checkPrint(t, function(block(nil, halt(), api.IrOp{Code: api.ICall, Res: -1, Args: args})), "b0():\n  call f0()\n  halt\n")
	}
}

func TestP7_5_Terminators(t *testing.T) {
	one, two := edge(1), edge(2, 3, 4)
	for _, x := range []struct {
		term api.Term
		want string
	}{
		{jump(5), "jump b5()"},
		{api.Term{Kind: api.TJump, A: 9}, "jump "},
		{api.Term{Kind: api.TJump, A: 9, To: []api.Edge{one, two}}, "jump b1(), b2(v3, v4)"},
		{branch(9, one, two), "branch v9, b1(), b2(v3, v4)"},
		{branch(9), "branch v9, "},
		{branch(9, two), "branch v9, b2(v3, v4)"},
		{branch(-1, one, one, one), "branch v-1, b1(), b1(), b1()"},
		{choose(0, two), "switch v0, b2(v3, v4)"},
		{choose(9), "switch v9, "},
		{choose(9, one, two, edge(-1, -2)), "switch v9, b1(), b2(v3, v4), b-1(v-2)"},
		{ret(9), "return v9"},
		{ret(0), "return v0"},
		{ret(-1), "return"},
		{ret(-2), "return v-2"},
		{api.Term{Kind: api.TReturn, A: 9, To: []api.Edge{one}}, "return v9"},
		{halt(), "halt"},
		{api.Term{Kind: api.THalt, A: 9, To: []api.Edge{one}}, "halt"},
		{api.Term{A: 9, To: []api.Edge{one}}, "?"},
		{api.Term{Kind: 6, A: 9, To: []api.Edge{one}}, "?"},
		{api.Term{Kind: -1}, "?"},
		{api.Term{Kind: api.THalt + 1<<32}, "?"},
	} {
		checkPrint(t, function(block(nil, x.term)), "b0():\n  "+x.want+"\n")
	}
}

func TestP7_5_AnyNumbers(t *testing.T) {
	f := function(block(list(math.MinInt, -1, math.MaxInt), jump(math.MinInt, math.MaxInt), api.IrOp{Code: api.IObj, Res: math.MaxInt, A: math.MinInt, N: 65535}))
	checkPrint(t, f, "b0(v-9223372036854775808, v-1, v9223372036854775807):\n  v9223372036854775807 = obj -9223372036854775808 + 65535\n  jump b-9223372036854775808(v9223372036854775807)\n")
}

func TestP7_4_Graph(t *testing.T) {
	for _, x := range []struct {
		f    api.IrFunc
		want [][]int
	}{
		{api.IrFunc{}, nil},
		{function(block(nil, halt())), [][]int{nil}},
		{function(block(nil, jump(1)), block(nil, ret(-1))), [][]int{{1}, nil}},
		{function(block(nil, branch(0, edge(2), edge(1))), block(nil, ret(-1)), block(nil, jump(1))), [][]int{{2, 1}, nil, {1}}},
		{function(block(nil, choose(0, edge(1), edge(1, 5), edge(0), edge(1)))), [][]int{{1, 1, 0, 1}}},
		{function(block(nil, api.Term{Kind: api.TJump, To: []api.Edge{edge(7), edge(-1), edge(math.MinInt)}})), [][]int{{7, -1, math.MinInt}}},
		{function(block(nil, api.Term{Kind: api.THalt, To: []api.Edge{edge(7)}}), api.IrBlock{}, block(nil, api.Term{To: []api.Edge{edge(math.MaxInt)}})), [][]int{{7}, nil, {math.MaxInt}}},
	} {
		if got := ir.Graph(x.f); !slices.EqualFunc(got.Succ, x.want, slices.Equal[[]int]) {
			t.Errorf("Graph: %v, want %v", got.Succ, x.want)
		}
	}
	f := function(block(nil, branch(0, edge(2), edge(1))), block(nil, ret(-1)), block(nil, jump(1)))
	before := clonedFunction(f)
	g := ir.Graph(f)
	g.Succ[0][0], g.Succ[2][0] = 99, 99
	g.Succ[2] = append(g.Succ[2], 99)
	if !sameFunction(f, before) || !slices.Equal(ir.Graph(f).Succ[0], list(2, 1)) {
		t.Error("the graph shares memory with the function")
	}
	g = ir.Graph(f)
	_ = append(g.Succ[0], 99)
	if !slices.Equal(g.Succ[2], list(1)) {
		t.Error("the lists of the graph share memory")
	}
}

func TestP7_4_Pure(t *testing.T) {
	pure := map[int]bool{
		api.IConst: true, api.IObj: true, api.INeg: true, api.INot: true, api.IAdd: true, api.ISub: true, api.IMul: true, api.IAnd: true, api.IOr: true,
		api.IXor: true, api.IShl: true, api.IShr: true, api.ISar: true, api.IEq: true, api.ILtu: true, api.ILts: true,
	}
	for _, code := range append(numbersFrom(-5, 100), farNumbers...) {
		for _, o := range []api.IrOp{{Code: code}, {Code: code, Res: -1}, {Code: code, Res: 5, A: -7, B: 1 << 40, N: 300, Args: list(1)}} {
			if ir.Pure(o) != pure[code] {
				t.Errorf("Pure of %+v: %v", o, ir.Pure(o))
			}
		}
	}
}

func TestP7_4_Count(t *testing.T) {
	for _, x := range []struct {
		f    api.IrFunc
		want int
	}{
		{api.IrFunc{}, 0},
		{function(block(nil, halt())), 0},
		{function(block(list(0), halt())), 1},
		{function(block(list(65535), halt())), 65536},
		{function(block(nil, halt(), konst(7, 1))), 8},
		{function(block(list(3, 9, 4), halt(), konst(7, 1))), 10},
		{function(block(list(3), halt(), konst(9, 1), konst(2, 1))), 10},
		{function(block(list(3), jump(1), konst(2, 1)), block(list(1), halt(), konst(5, 1))), 6},
		{function(block(list(3), jump(1), konst(2, 1)), block(list(8), halt(), konst(5, 1))), 9},
		{function(block(nil, ret(50), out(40, 1), call(-1, 60, 70))), 0},    // values that are only used
		{function(block(nil, halt(), api.IrOp{Code: api.IOut, Res: 5})), 6}, // a result that is not one
		{function(block(nil, halt(), api.IrOp{Code: 99, Res: 5})), 6},
		{function(block(list(-1, -5), halt(), konst(-1, 1), konst(-7, 1))), 0},
		{function(block(list(-1, 0), halt(), konst(-2, 1))), 1},
		{function(block(list(math.MinInt), halt())), 0},
		{function(block(list(math.MaxInt-1), halt())), math.MaxInt},
		{function(block(nil, halt(), konst(1<<40, 1))), 1<<40 + 1},
	} {
		if got := ir.Count(x.f); got != x.want {
			t.Errorf("Count: %d, want %d: %s", got, x.want, ir.Print(x.f))
		}
		if x.want < 1<<17 && modelCount(x.f) != x.want {
			t.Errorf("the model contradicts the test: %d, want %d", modelCount(x.f), x.want)
		}
	}
	// No number of type int is greater than the greatest one; arithmetic wraps around.
	for _, f := range []api.IrFunc{function(block(list(math.MaxInt, 3), halt(), konst(7, 1))), function(block(list(3), halt(), konst(math.MaxInt, 1), konst(7, 1)))} {
		if got := ir.Count(f); got != math.MinInt {
			t.Errorf("Count: %d", got)
		}
	}
}
