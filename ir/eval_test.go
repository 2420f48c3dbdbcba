package ir_test

import (
	"fmt"
	"slices"
	"strings"
	"testing"

	"vellum/api"
	"vellum/ir"
)

const plenty = 1000000 // units of fuel

// startOf returns an evaluation of the tested function with plenty of fuel.
func startOf(p api.IrProg, args ...uint16) start {
	return start{p: p, f: tested, args: args, fuel: plenty}
}

// checkRun compares an evaluation with the model, and its value, its trap and its events with what is expected.
func checkRun(t *testing.T, what string, s start, want api.Run) {
	t.Helper()
	got := s.run()
	if got.Value != want.Value || got.Trap != want.Trap || !slices.Equal(got.Out, want.Out) || got.Inputs != want.Inputs || got.Polls != want.Polls {
		t.Errorf("%s: %+v, want %+v", what, brief(got), want)
	}
	if m := s.model(); !sameRun(got, m) {
		t.Errorf("%s: %+v, want %+v as the model has (or another RAM)", what, brief(got), brief(m))
	}
}

// returns is the run that returns a value, and traps the one that ends with another trap.
func returns(value uint16, out ...api.Event) api.Run {
	return api.Run{Value: value, Out: out, Trap: api.Trap{Kind: api.Return}}
}

func traps(kind int, info uint16, out ...api.Event) api.Run {
	return api.Run{Out: out, Trap: api.Trap{Kind: kind, Info: info}}
}

func TestP7_2_Examples(t *testing.T) {
	p := straight(2, konst(0, 7), in(1, 3), binary(api.ISub, 2, 0, 1), out(2, 9))
	s := startOf(p)
	s.t.In = []uint16{9}
	want := returns(0xfffe, api.Event{Port: 9, Value: 0xfffe})
	want.Inputs = 1
	checkRun(t, "example 1", s, want)
	p = program(1, block(list(0), jump(1, 0)), block(list(1), branch(1, edge(2), edge(3))),
		block(nil, jump(1, 3), konst(2, 1), binary(api.ISub, 3, 1, 2)), block(nil, ret(1)))
	checkRun(t, "example 2", startOf(p, 3), returns(0))
	checkRun(t, "example 3", startOf(straight(-1, konst(0, 0x3fff), unary(api.ILoad, 1, 0))), traps(api.Fault, 0x3fff))
	if e := ir.Valid(straight(-1, unary(api.INeg, 1, 0), konst(0, 1))); e != api.ErrGraph {
		t.Errorf("example 4: %v", e)
	}
}

func TestP7_2_OtherArguments(t *testing.T) {
	p := program(2, block(list(0, 1), ret(0), konst(2, 1), out(2, 1)))
	for what, s := range map[string]start{
		"f -1":                   {p: p, f: -1},
		"f that is missing":      {p: p, f: 5},
		"no argument":            {p: p, f: tested},
		"one argument":           {p: p, f: tested, args: []uint16{1}},
		"three arguments":        {p: p, f: tested, args: []uint16{1, 2, 3}},
		"argument of the entry":  {p: p, f: halts, args: []uint16{1}},
		"external, no argument":  {p: p, f: external},
		"external, 2 arguments":  {p: p, f: external, args: []uint16{1, 2}},
		"wrong entry":            {p: changed(p, func(p *api.IrProg) { p.Entry = tested }), f: tested, args: []uint16{1, 2}},
		"wrong handler":          {p: changed(p, func(p *api.IrProg) { p.Handler = tested }), f: tested, args: []uint16{1, 2}},
		"65 banks":               {p: changed(p, func(p *api.IrProg) { p.Banks = make([]string, 65) }), f: tested, args: []uint16{1, 2}},
		"wrong bank":             {p: changed(p, func(p *api.IrProg) { p.Banks = []string{"", ""} }), f: tested, args: []uint16{1, 2}},
		"wrong function":         {p: changed(p, func(p *api.IrProg) { p.Funcs[silent] = function(api.IrBlock{}) }), f: halts},
		"no program":             {},
		"as many as are missing": {p: changed(p, func(p *api.IrProg) { p.Args = list(0, 2, 1) }), f: tested, args: []uint16{1, 2}},
	} {
		s.ram, s.t, s.fuel = "x", api.Tape{In: []uint16{1}, Irq: []byte{1}}, plenty
		if got := s.run(); !isZeroRun(got) {
			t.Errorf("%s: %+v", what, brief(got))
		}
	}
	for _, f := range farNumbers {
		if got := ir.Eval(p, f, nil, "", api.Tape{}, plenty); !isZeroRun(got) {
			t.Errorf("f %d: %+v", f, brief(got))
		}
	}
}

func TestP7_2_Ram(t *testing.T) {
	all := strings.Repeat("0123456789abcdefghijkl", 400)
	for _, size := range []int{0, 1, 2, 100, 8191, 8192, 8193, len(all)} {
		want := (all[:size] + strings.Repeat("\x00", 8192))[:8192]
		for what, s := range map[string]start{
			"return":   startOf(straight(-1)),
			"halt":     {p: straight(-1), f: halts, fuel: plenty},
			"external": {p: straight(-1), f: external, args: []uint16{1}},
			"no fuel":  {p: straight(-1), f: tested},
		} {
			s.ram = all[:size]
			if got := s.run(); got.Ram != want {
				t.Errorf("%s: RAM of %d bytes: %d bytes: %q", what, size, len(got.Ram), got.Ram[:min(10, len(got.Ram))])
			}
		}
	}
}

func TestP7_2_Constants(t *testing.T) {
	for _, w := range words {
		checkRun(t, "const", startOf(straight(0, konst(0, w))), returns(w))
		checkRun(t, "obj in RAM", startOf(straight(0, object(0, 0, w))), returns(0x4010+w))
		checkRun(t, "obj in a bank", startOf(straight(0, object(0, 1, w))), returns(0x20+w))
		p := program(1, block(list(0), ret(1), unary(api.INeg, 1, 0)))
		checkRun(t, "neg", startOf(p, w), returns(uint16(65536-int(w))))
		p = program(1, block(list(0), ret(1), unary(api.INot, 1, 0)))
		checkRun(t, "not", startOf(p, w), returns(65535-w))
	}
}

func TestP7_2_Arithmetic(t *testing.T) {
	for code := api.IAdd; code <= api.ILts; code++ {
		p := program(2, block(list(0, 1), ret(2), binary(code, 2, 0, 1)))
		for _, a := range words {
			for _, b := range words {
				want := traps(api.Divide, 0)
				if code != api.IDiv || b != 0 {
					want = returns(uint16(modelArithmetic(code, int(a), int(b))))
				}
				got := ir.Eval(p, tested, []uint16{a, b}, "", api.Tape{}, 2)
				if got.Value != want.Value || got.Trap != want.Trap {
					t.Errorf("%s of %#x and %#x: %+v, want %+v", modelTexts[code], a, b, brief(got), want)
				}
			}
		}
	}
}

func TestP7_2_SomeResults(t *testing.T) {
	for _, x := range []struct {
		code       int
		a, b, want uint16
	}{
		{api.IAdd, 0xffff, 2, 1}, {api.ISub, 0, 1, 0xffff}, {api.IMul, 0x1001, 0x10, 0x0010}, {api.IDiv, 0xffff, 2, 0x7fff}, {api.IDiv, 7, 9, 0},
		{api.IAnd, 0x0ff0, 0x3333, 0x0330}, {api.IOr, 0x0ff0, 0x3333, 0x3ff3}, {api.IXor, 0x0ff0, 0x3333, 0x3cc3}, {api.IShl, 0x8001, 1, 2}, {api.IShl, 1, 15, 0x8000},
		{api.IShl, 3, 16, 3}, {api.IShl, 3, 0xfff1, 6}, {api.IShr, 0x8001, 1, 0x4000}, {api.IShr, 0x8000, 15, 1}, {api.IShr, 0x8001, 32, 0x8001}, {api.ISar, 0x8001, 1, 0xc000},
		{api.ISar, 0x8000, 15, 0xffff}, {api.ISar, 0x7fff, 1, 0x3fff}, {api.ISar, 0x8001, 16, 0x8001}, {api.IEq, 5, 5, 1}, {api.IEq, 5, 6, 0}, {api.ILtu, 1, 0xffff, 1},
		{api.ILtu, 0xffff, 1, 0}, {api.ILtu, 1, 1, 0}, {api.ILts, 0xffff, 1, 1}, {api.ILts, 1, 0xffff, 0}, {api.ILts, 0x8000, 0x7fff, 1}, {api.ILts, 4, 4, 0},
	} {
		p := program(2, block(list(0, 1), ret(2), binary(x.code, 2, 0, 1)))
		checkRun(t, fmt.Sprintf("%+v", x), startOf(p, x.a, x.b), returns(x.want))
	}
}

// addresses are those at which accesses of RAM or of a bank begin or cease to trap, and others.
var addresses = append(slices.Clone(words), 0x0ffd, 0x0fff+0x1000, 0x3ffd, 0x4002, 0x5ffc, 0x6002, 0xbfff, 0xc001)

func TestP7_2_Loads(t *testing.T) {
	ram := numberedBank(1) + numberedBank(50)
	inRam := func(a uint16) bool { return a >= 0x4000 && a < 0x6000 }
	for _, a := range addresses {
		s := startOf(program(1, block(list(0), ret(1), unary(api.ILoadb, 1, 0))), a)
		s.ram = ram
		want := traps(api.Fault, a)
		if inRam(a) {
			want = returns(uint16(ram[a-0x4000]))
		}
		checkRun(t, fmt.Sprintf("loadb of %#x", a), s, want)
		s.p = program(1, block(list(0), ret(1), unary(api.ILoad, 1, 0)))
		if inRam(a) {
			want = traps(api.Fault, a+1)
		}
		if inRam(a) && inRam(a+1) {
			want = returns(uint16(ram[a-0x4000]) + 256*uint16(ram[a-0x4000+1]))
		}
		checkRun(t, fmt.Sprintf("load of %#x", a), s, want)
	}
}

func TestP7_2_Stores(t *testing.T) {
	ram := []byte(numberedBank(1) + numberedBank(50))
	for _, a := range addresses {
		for code, size := range map[int]int{api.IStore: 2, api.IStoreb: 1} {
			s := startOf(program(2, block(list(0, 1), ret(1), store(code, 0, 1))), a, 0xabcd)
			s.ram = string(ram)
			want, after := returns(0xabcd), slices.Clone(ram)
			switch k := int(a) - 0x4000; {
			case k < 0 || k >= 8192:
				want = traps(api.Fault, a)
			case k+size > 8192:
				want = traps(api.Fault, 0x6000)
			default:
				copy(after[k:], []byte{0xcd, 0xab}[:size])
			}
			checkRun(t, fmt.Sprintf("store of %d bytes at %#x", size, a), s, want)
			if got := s.run(); got.Ram != string(after) {
				t.Errorf("store of %d bytes at %#x: wrong RAM", size, a)
			}
		}
	}
}

func TestP7_2_Rom(t *testing.T) {
	for _, bank := range []uint16{0, 1, 2, 63, 64, 255, 256, 0xffff} {
		for _, off := range addresses {
			p := program(1, block(list(0), ret(1), rom(api.IRomb, 1, 0, bank)))
			exists := int(bank) < len(p.Banks) && off < 4096
			want := traps(api.Fault, off)
			if exists {
				want = returns(uint16(p.Banks[bank][off]))
			}
			checkRun(t, fmt.Sprintf("romb of %d:%#x", bank, off), startOf(p, off), want)
			p = program(1, block(list(0), ret(1), rom(api.IRom, 1, 0, bank)))
			if exists {
				want = traps(api.Fault, 4096)
			}
			if exists && off < 4095 {
				want = returns(uint16(p.Banks[bank][off]) + 256*uint16(p.Banks[bank][off+1]))
			}
			checkRun(t, fmt.Sprintf("rom of %d:%#x", bank, off), startOf(p, off), want)
		}
	}
}

func TestP7_2_InputsAndOutputs(t *testing.T) {
	p := straight(3, in(1, 3), in(2, 255), in(3, 1), out(1, 1), out(2, 255), out(3, 7), out(1, 1))
	event := func(port, value uint16) api.Event { return api.Event{Port: port, Value: value} }
	for _, inputs := range [][]uint16{nil, {}, {5}, {5, 0xffff}, {5, 6, 7}, {5, 6, 7, 8, 9}} {
		s := startOf(p)
		s.t.In = inputs
		three := append(slices.Clone(inputs), 0, 0, 0)[:3]
		want := returns(three[2], event(1, three[0]), event(255, three[1]), event(7, three[2]), event(1, three[0]))
		want.Inputs = min(3, len(inputs))
		checkRun(t, fmt.Sprint(inputs), s, want)
	}
	s := startOf(straight(1, in(1, 3)))
	s.t = api.Tape{In: []uint16{5, 6}, Irq: []byte{1, 1}}
	want := returns(5)
	want.Inputs = 1
	checkRun(t, "one of two inputs", s, want)
}

func TestP7_2_Terminators(t *testing.T) {
	results := []api.IrOp{konst(10, 100), konst(11, 101), konst(12, 102), konst(13, 103)}
	last := block(list(5), ret(5))
	for _, a := range words {
		want := uint16(100)
		if a == 0 {
			want = 101
		}
		p := program(1, block(list(0), branch(0, edge(1, 10), edge(1, 11)), results...), last)
		checkRun(t, fmt.Sprintf("branch %#x", a), startOf(p, a), returns(want))
		edges := []api.Edge{edge(1, 10), edge(1, 11), edge(1, 12), edge(1, 13)}
		for count := 1; count <= 4; count++ {
			p := program(1, block(list(0), choose(0, edges[:count]...), results...), last)
			checkRun(t, fmt.Sprintf("switch %#x, %d edges", a, count), startOf(p, a), returns(100+min(a, uint16(count)-1)))
		}
		checkRun(t, "return", startOf(program(1, block(list(0), ret(0))), a), returns(a))
		checkRun(t, "return of nothing", startOf(program(1, block(list(0), ret(-1))), a), returns(0))
		checkRun(t, "halt", startOf(program(1, block(list(0), halt(), out(0, 1))), a), traps(api.Halt, 0, api.Event{Port: 1, Value: a}))
	}
}

func TestP7_2_ArgumentsOfEdgesAtOnce(t *testing.T) {
	// A loop exchanges two parameters, and passes on a third one, as often as the argument says.
	p := program(1,
		block(list(0), jump(1, 0, 1, 2, 3), konst(1, 10), konst(2, 20), konst(3, 30), konst(4, 1)),
		block(list(5, 6, 7, 8), branch(5, edge(2), edge(3))),
		block(nil, jump(1, 9, 7, 8, 6), binary(api.ISub, 9, 5, 4)),
		block(nil, ret(5), out(6, 1), out(7, 2), out(8, 3)))
	for n := range 7 {
		numbers := []uint16{10, 20, 30}
		event := func(k int) api.Event { return api.Event{Port: uint16(k + 1), Value: numbers[(n+k)%3]} }
		checkRun(t, fmt.Sprintf("%d rounds", n), startOf(p, uint16(n)), returns(0, event(0), event(1), event(2)))
	}
	p = program(2, block(list(0, 1), jump(1, 1, 0, 1, 1)), block(list(2, 3, 4, 5), ret(-1), out(2, 1), out(3, 1), out(4, 1), out(5, 1)))
	event := func(value uint16) api.Event { return api.Event{Port: 1, Value: value} }
	checkRun(t, "one value twice", startOf(p, 7, 8), returns(0, event(8), event(7), event(8), event(8)))
}

func TestP7_2_Calls(t *testing.T) {
	p := straight(2, konst(0, 21), call(2, doubles, 0))
	checkRun(t, "a value", startOf(p), returns(42))
	checkRun(t, "a value that is ignored", startOf(straight(0, konst(0, 21), call(-1, doubles, 0))), returns(21))
	silence := api.Event{Port: 99, Value: 99}
	checkRun(t, "no value", startOf(straight(1, konst(0, 21), call(1, silent), out(0, 1))), returns(0, silence, api.Event{Port: 1, Value: 21}))
	checkRun(t, "halt", startOf(straight(-1, call(-1, halts), call(-1, silent))), traps(api.Halt, 0))
	checkRun(t, "external", startOf(straight(1, konst(0, 21), call(-1, silent), call(1, external, 0), call(-1, silent))), traps(api.Extern, external, silence))
	checkRun(t, "external itself", start{p: p, f: external, args: []uint16{1}, fuel: plenty}, traps(api.Extern, external))
	for _, fuel := range []int{0, -1} {
		checkRun(t, "external itself, no fuel", start{p: p, f: external, args: []uint16{1}, fuel: fuel}, traps(api.Extern, external))
	}
	var params, args []int
	var ops []api.IrOp
	var values []uint16
	var events []api.Event
	for k := range 8 {
		params, args, values = append(params, 40-k), append(args, 47-k), append(values, uint16(k*1000))
		ops = append(ops, out(40-k, uint16(k+1)))
		events = append(events, api.Event{Port: uint16(k + 1), Value: uint16(k * 1000)})
	}
	p = program(8, block(args, ret(50), call(50, 5, args...)))
	p.Funcs, p.Args = append(p.Funcs, function(block(params, ret(40), ops...))), append(p.Args, 8)
	checkRun(t, "8 arguments", startOf(p, values...), returns(0, events...))
	checkRun(t, "8 arguments of f", start{p: p, f: 5, args: values, fuel: plenty}, returns(0, events...))
}

func TestP7_2_ValuesOfEachCall(t *testing.T) {
	// f(n) = n = 0 ? 1 : n * f(n - 1), with a value that must be that of the call after the inner call.
	p := program(1,
		block(list(0), branch(0, edge(1), edge(2)), konst(1, 1)),
		block(nil, ret(4), binary(api.ISub, 2, 0, 1), call(3, tested, 2), binary(api.IMul, 4, 0, 3), out(2, 1)),
		block(nil, ret(1)))
	event := func(value uint16) api.Event { return api.Event{Port: 1, Value: value} }
	checkRun(t, "factorial", startOf(p, 5), returns(120, event(0), event(1), event(2), event(3), event(4)))
	// A function that is called again begins with other values, and has more of them than the one that calls it.
	p = straight(6, konst(1, 3), call(2, doubles, 1), call(3, doubles, 2), call(4, doubles, 3), binary(api.IAdd, 5, 2, 3), binary(api.IAdd, 6, 5, 4))
	checkRun(t, "calls in a row", startOf(p), returns(42))
}

// nested returns a program whose tested function calls itself as often as its argument says, and then executes an
// operation and outputs 5.
func nested(last api.IrOp) api.IrProg {
	return program(1,
		block(list(0), branch(0, edge(1), edge(2)), konst(1, 1)),
		block(nil, ret(3), binary(api.ISub, 2, 0, 1), call(3, tested, 2)),
		block(nil, ret(4), konst(4, 5), last, out(4, 1)))
}

func TestP7_2_Depth(t *testing.T) {
	five, silence := api.Event{Port: 1, Value: 5}, api.Event{Port: 99, Value: 99}
	for what, x := range map[string]struct {
		n    uint16
		last api.IrOp
		want api.Run
	}{
		"depth 100":              {99, konst(5, 0), returns(5, five)},
		"depth 101":              {100, konst(5, 0), traps(api.Stack, 0)},
		"depth 1000":             {999, konst(5, 0), traps(api.Stack, 0)},
		"call at depth 100":      {98, call(5, silent), returns(5, silence, five)},
		"call at depth 101":      {99, call(5, silent), traps(api.Stack, 0)},
		"external at depth 2":    {0, call(5, external, 4), traps(api.Extern, external)},
		"external at depth 100":  {98, call(5, external, 4), traps(api.Extern, external)},
		"external at depth 101":  {99, call(5, external, 4), traps(api.Stack, 0)},
		"halt at depth 100":      {98, call(5, halts), traps(api.Halt, 0)},
		"halt at depth 101":      {99, call(5, halts), traps(api.Stack, 0)},
		"call of itself forever": {5, call(5, tested, 1), traps(api.Stack, 0)},
	} {
		checkRun(t, what, startOf(nested(x.last), x.n), x.want)
	}
}

func TestP7_2_Fuel(t *testing.T) {
	p := straight(0, konst(0, 1), out(0, 1), call(-1, silent), out(0, 2))
	var events []api.Event
	for fuel := -3; fuel <= 12; fuel++ {
		switch fuel { // the units: const, out, call, (const, out, return), out, return
		case 2:
			events = append(events, api.Event{Port: 1, Value: 1})
		case 5:
			events = append(events, api.Event{Port: 99, Value: 99})
		case 7:
			events = append(events, api.Event{Port: 2, Value: 1})
		}
		want := traps(api.Budget, 0, events...)
		if fuel >= 8 {
			want = returns(1, events...)
		}
		s := startOf(p)
		s.fuel = fuel
		checkRun(t, fmt.Sprintf("fuel %d", fuel), s, want)
	}
	for _, fuel := range farNumbers {
		s := start{p: p, f: halts, fuel: fuel}
		want := traps(api.Halt, 0)
		if fuel < 0 {
			want = traps(api.Budget, 0)
		}
		checkRun(t, fmt.Sprintf("fuel %d", fuel), s, want)
	}
	forever := program(0, block(nil, jump(1)), block(nil, jump(1)))
	checkRun(t, "a loop without end", startOf(forever), traps(api.Budget, 0))
}

func TestP7_2_StateAtTheEnd(t *testing.T) {
	effects := []api.IrOp{konst(0, 0x4000), in(1, 3), store(api.IStore, 0, 1), out(1, 5), poll()}
	for what, x := range map[string]struct {
		last api.IrOp
		end  api.Trap
	}{
		"fault":    {unary(api.ILoad, 2, 1), api.Trap{Kind: api.Fault, Info: 0x1234}},
		"divide":   {binary(api.IDiv, 2, 0, 3), api.Trap{Kind: api.Divide}},
		"external": {call(2, external, 1), api.Trap{Kind: api.Extern, Info: external}},
		"halt":     {call(-1, halts), api.Trap{Kind: api.Halt}},
		"return":   {konst(2, 9), api.Trap{Kind: api.Return}},
		"budget":   {konst(2, 9), api.Trap{Kind: api.Budget}},
	} {
		s := startOf(straight(1, append([]api.IrOp{konst(3, 0)}, append(effects, x.last, out(0, 6))...)...))
		s.t = api.Tape{In: []uint16{0x1234, 1}, Irq: []byte{0, 1, 1}}
		if x.end.Kind == api.Budget {
			s.fuel = 6
		}
		want := api.Run{Trap: x.end, Out: []api.Event{{Port: 5, Value: 0x1234}}, Inputs: 1, Polls: 1}
		if x.end.Kind == api.Return {
			want.Value = 0x1234
			want.Out = append(want.Out, api.Event{Port: 6, Value: 0x4000})
		}
		checkRun(t, what, s, want)
		if ram := s.run().Ram; ram[:3] != "\x34\x12\x00" {
			t.Errorf("%s: RAM %q", what, ram[:3])
		}
	}
}

func TestP7_3_Poll(t *testing.T) {
	silence := api.Event{Port: 99, Value: 99}
	twice := straight(0, konst(0, 5), poll(), out(0, 1), poll(), out(0, 2))
	for what, x := range map[string]struct {
		handler int
		irq     []byte
		out     []uint16 // the ports
		polls   int
	}{
		"none":                  {silent, nil, []uint16{1, 2}, 0},
		"one is not pending":    {silent, []byte{0}, []uint16{1, 2}, 1},
		"one is pending":        {silent, []byte{1}, []uint16{99, 1, 2}, 1},
		"the second is pending": {silent, []byte{0, 255}, []uint16{1, 99, 2}, 2},
		"both are pending":      {silent, []byte{128, 2}, []uint16{99, 1, 99, 2}, 2},
		"more than are read":    {silent, []byte{1, 0, 1, 1}, []uint16{99, 1, 2}, 2},
		"no handler":            {-1, []byte{1, 1, 1}, []uint16{1, 2}, 2},
	} {
		s := startOf(changed(twice, func(p *api.IrProg) { p.Handler = x.handler }))
		s.t.Irq, s.t.In = x.irq, []uint16{1, 2, 3}
		want := returns(5)
		want.Polls = x.polls
		for _, port := range x.out {
			event := api.Event{Port: port, Value: 5}
			if port == 99 {
				event = silence
			}
			want.Out = append(want.Out, event)
		}
		checkRun(t, what, s, want)
	}
}

func TestP7_3_Handlers(t *testing.T) {
	withHandler := func(p api.IrProg, blocks ...api.IrBlock) api.IrProg {
		return changed(p, func(p *api.IrProg) { p.Handler, p.Funcs[silent] = silent, api.IrFunc{Blocks: blocks} })
	}
	once := straight(0, konst(0, 5), poll(), out(0, 1))
	one := api.Event{Port: 1, Value: 5}
	for what, x := range map[string]struct {
		p    api.IrProg
		irq  []byte
		want api.Run
	}{
		"value that is ignored": {withHandler(once, block(nil, ret(0), konst(0, 77))), []byte{1}, returns(5, one)},
		"external":              {withHandler(once), []byte{1}, traps(api.Extern, silent)},
		"external, not pending": {withHandler(once), []byte{0}, returns(5, one)},
		"halt":                  {withHandler(once, block(nil, halt())), []byte{1}, traps(api.Halt, 0)},
		"poll in the handler":   {withHandler(once, block(nil, ret(-1), konst(0, 6), poll(), out(0, 2))), []byte{1, 1, 1, 0}, returns(5, api.Event{Port: 2, Value: 6}, api.Event{Port: 2, Value: 6}, api.Event{Port: 2, Value: 6}, one)},
		"poll without end":      {withHandler(once, block(nil, ret(-1), poll())), slices.Repeat([]byte{1}, 200), traps(api.Stack, 0)},
		"poll, 99 deep":         {withHandler(once, block(nil, ret(-1), poll())), slices.Repeat([]byte{1}, 99), returns(5, one)},
		"poll, 100 deep":        {withHandler(once, block(nil, ret(-1), poll())), slices.Repeat([]byte{1}, 100), traps(api.Stack, 0)},
	} {
		s := startOf(x.p)
		s.t.Irq = x.irq
		x.want.Polls = min(100, len(x.irq))
		checkRun(t, what, s, x.want)
	}
	for n, want := range map[uint16]api.Run{98: returns(5, api.Event{Port: 99, Value: 99}, one), 99: traps(api.Stack, 0)} {
		s := startOf(changed(nested(poll()), func(p *api.IrProg) { p.Handler = silent }), n)
		s.t.Irq = []byte{1}
		want.Polls = 1
		checkRun(t, fmt.Sprintf("handler at depth %d", n+2), s, want)
	}
	s := startOf(changed(nested(poll()), func(p *api.IrProg) { p.Handler, p.Funcs[silent] = silent, api.IrFunc{} }), 99)
	s.t.Irq = []byte{1}
	want := traps(api.Stack, 0)
	want.Polls = 1
	checkRun(t, "external handler at depth 101", s, want)
}

func TestP7_2_ArgumentsAreNotChanged(t *testing.T) {
	p := program(2, block(list(0, 1), jump(1, 1, 0)), block(list(2, 3), ret(2), store(api.IStore, 4, 2)))
	p.Funcs[tested].Blocks[1].Ops = []api.IrOp{object(4, 0, 0), store(api.IStore, 4, 2), in(5, 1), poll(), out(5, 1)}
	s := startOf(p, 7, 8)
	s.t = api.Tape{In: []uint16{1, 2}, Irq: []byte{1, 2}}
	first := s.run()
	if !slices.Equal(s.args, []uint16{7, 8}) || !slices.Equal(s.t.In, []uint16{1, 2}) || !slices.Equal(s.t.Irq, []byte{1, 2}) {
		t.Errorf("the arguments were changed: %v, %v", s.args, s.t)
	}
	second := s.run()
	second.Out[0].Value++
	if !sameRun(first, s.run()) {
		t.Error("another result, the second time")
	}
}
