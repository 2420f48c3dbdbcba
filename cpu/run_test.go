package cpu_test

import (
	"fmt"
	"math"
	"slices"
	"testing"

	"vellum/api"
	"vellum/cpu"
)

func TestP4_1_Start(t *testing.T) {
	for _, i := range []api.Image{{}, {Entry: 1}, {Entry: 0xffff}, program(), imageOf(api.Ins{}), {Banks: []string{""}, Entry: 0x0fff, Vector: 7}} {
		want := api.Snap{S: api.State{PC: i.Entry, SP: 2}, Ram: zeroBank + zeroBank, Stack: []uint16{0, 0xffff}}
		got := cpu.Start(i)
		if !equal(got, want) {
			t.Errorf("entry %#x: %s", i.Entry, describe(got))
		}
		got.Stack[0] = 5
		if again := cpu.Start(i); !equal(again, want) {
			t.Errorf("entry %#x: the results share memory", i.Entry)
		}
	}
}

// counter counts R1 down to 0, outputs it in each round, and halts: 4 steps a round.
func counter() api.Image {
	return program(
		api.Ins{Op: api.OUT, D: 1, Imm: 9},
		api.Ins{Op: api.SUB + 0x10, D: 1, Imm: 1},
		api.Ins{Op: api.TST, D: 1, S: 1},
		api.Ins{Op: api.JCC + api.CcNe, Imm: 0xfff6},
		api.Ins{Op: api.HLT},
	)
}

func TestP4_9_RunStopsAfterMost(t *testing.T) {
	s := changed(cpu.Start(counter()), setR(1, 3))
	for _, x := range []struct {
		most, steps, out int
		trap             int
	}{
		{math.MinInt, 0, 0, api.Budget}, {-1, 0, 0, api.Budget}, {0, 0, 0, api.Budget}, {1, 1, 1, api.Budget}, {2, 2, 1, api.Budget}, {5, 5, 2, api.Budget},
		{11, 11, 3, api.Budget}, {12, 12, 3, api.Budget}, {13, 12, 3, api.Halt}, {14, 12, 3, api.Halt}, {math.MaxInt, 12, 3, api.Halt},
	} {
		got, trap := cpu.Run(counter(), api.Tape{}, s, x.most)
		if trap != (api.Trap{Kind: x.trap}) || got.S.Steps != x.steps || len(got.Out) != x.out {
			t.Errorf("at most %d: trap %v, %s", x.most, trap, describe(got))
		}
		checkNormal(t, "Run", got)
	}
}

func TestP4_9_RunCountsItsOwnSteps(t *testing.T) {
	s := changed(cpu.Start(counter()), setR(1, 3), func(s *api.Snap) { s.S.Steps = 1000 })
	if got, trap := cpu.Run(counter(), api.Tape{}, s, 5); trap.Kind != api.Budget || got.S.Steps != 1005 {
		t.Errorf("5 more steps: trap %v, %s", trap, describe(got))
	}
}

// A run without steps makes its state normal and does not look at the instruction.
func TestP4_9_RunOfNothing(t *testing.T) {
	for _, pc := range []uint16{0, 0x3000, 0xffff} {
		s := changed(busy(), setPC(pc), setStack(numbered(5000)...))
		got, trap := cpu.Run(api.Image{}, api.Tape{}, s, 0)
		if trap != (api.Trap{Kind: api.Budget}) || !equal(got, modelNormal(s)) {
			t.Errorf("PC %#x: trap %v, %s", pc, trap, describe(got))
		}
	}
}

func TestP4_9_RunPassesTraps(t *testing.T) {
	for _, x := range []struct {
		list  []api.Ins
		want  api.Trap
		steps int
	}{
		{[]api.Ins{{Op: api.HLT}}, api.Trap{Kind: api.Halt}, 0},
		{[]api.Ins{{Op: api.RET}}, api.Trap{Kind: api.Return}, 1},
		{[]api.Ins{{Op: api.NOP}, {Op: api.LDA, Imm: 0x6000}}, api.Trap{Kind: api.Fault, Info: 0x6000}, 1},
		{[]api.Ins{{Op: api.NOP}, {Op: api.DIV, D: 1, S: 2}}, api.Trap{Kind: api.Divide}, 1},
		{[]api.Ins{{Op: api.POP}, {Op: api.POP}, {Op: api.POP}}, api.Trap{Kind: api.Stack}, 2},
		{[]api.Ins{{Op: api.JMPW, Imm: 0x1ffd}}, api.Trap{Kind: api.Fault, Info: 0x2000}, 1},
		{[]api.Ins{{Op: api.JMP, Imm: 0xfffe}}, api.Trap{Kind: api.Budget}, 500},
	} {
		i := program(x.list...)
		got, trap := cpu.Run(i, api.Tape{}, cpu.Start(i), 500)
		if trap != x.want || got.S.Steps != x.steps {
			t.Errorf("%+v: trap %v, %d steps", x.list, trap, got.S.Steps)
		}
	}
}

func TestP4_Examples(t *testing.T) {
	for code, check := range map[string]func(s api.Snap, u api.Trap) bool{
		"\x30\x01\x05\x21\x12\x02": func(s api.Snap, u api.Trap) bool {
			return u == api.Trap{Kind: api.Halt} && s.S == api.State{R: [8]uint16{0, 5}, PC: 5, SP: 2, Steps: 2}
		},
		"\x91\x00\x07\x01": func(s api.Snap, u api.Trap) bool {
			return u == api.Trap{Kind: api.Return} && slices.Equal(s.Out, []api.Event{{Port: 7}}) && len(s.Stack) == 0 && s.S.PC == 0xffff
		},
		"\x11\x03\x11\x03\x11\x03": func(s api.Snap, u api.Trap) bool {
			return u == api.Trap{Kind: api.Stack} && s.S.Steps == 2 && s.S.R[3] == 0
		},
		"\x40\x01\x00\x30\x50\x21\x00": func(s api.Snap, u api.Trap) bool {
			return u == api.Trap{Kind: api.Fault, Info: 0x3000} && s.S.Steps == 1
		},
	} {
		i := api.Image{Banks: []string{bankWith(map[int]string{0: code})}}
		if s, u := cpu.Run(i, api.Tape{}, cpu.Start(i), 100); !check(s, u) {
			t.Errorf("%x: trap %v, %s", code, u, describe(s))
		}
	}
}

// called returns the state from which the run of a call begins.
func called(s api.Snap, bank int, pc uint16, pushed ...uint16) api.Snap {
	s = modelNormal(s)
	s.Stack = append(s.Stack, pushed...)
	s.S.SP, s.S.PC, s.S.Bank = uint16(len(s.Stack)), pc, bank
	return s
}

func TestP4_9_CallPushesAndGoes(t *testing.T) {
	for _, x := range []struct {
		bank int
		f    api.Place
		args []uint16
		want api.Snap
	}{
		{1, api.Place{Addr: 0x0123}, nil, called(busy(), 1, 0x0123, 1, 0xffff)},
		{1, api.Place{Bank: 2, Addr: 0x0123}, []uint16{7}, called(busy(), 1, 0x0123, 7, 1, 0xffff)},
		{1, api.Place{Bank: 2, Addr: 0x0fff}, []uint16{7}, called(busy(), 1, 0x0fff, 7, 1, 0xffff)},
		{1, api.Place{Bank: 2, Addr: 0x1000}, []uint16{7, 8, 9}, called(busy(), 2, 0x1000, 7, 8, 9, 1, 0xffff)},
		{1, api.Place{Bank: 2, Addr: 0x1fff}, []uint16{0xffff}, called(busy(), 2, 0x1fff, 0xffff, 1, 0xffff)},
		{1, api.Place{Bank: 2, Addr: 0x2000}, nil, called(busy(), 1, 0x2000, 1, 0xffff)},
		{1, api.Place{Bank: 2, Addr: 0xffff}, nil, called(busy(), 1, 0xffff, 1, 0xffff)},
		{63, api.Place{Bank: 64, Addr: 0x1000}, nil, called(busy(), 0, 0x1000, 63, 0xffff)},
		{65, api.Place{Bank: 127, Addr: 0x1000}, nil, called(busy(), 63, 0x1000, 65, 0xffff)},
		{65, api.Place{Bank: 127, Addr: 0x0001}, nil, called(busy(), 65, 0x0001, 65, 0xffff)},
		{-1, api.Place{Bank: -1, Addr: 0x1000}, nil, called(busy(), 63, 0x1000, 0xffff, 0xffff)},
		{0x10002, api.Place{Bank: -65, Addr: 0x1000}, nil, called(busy(), 63, 0x1000, 2, 0xffff)},
		{math.MaxInt, api.Place{Bank: math.MinInt, Addr: 0x1000}, nil, called(busy(), 0, 0x1000, 0xffff, 0xffff)},
		{math.MinInt, api.Place{Bank: math.MaxInt, Addr: 0x1000}, nil, called(busy(), 63, 0x1000, 0, 0xffff)},
	} {
		got, trap := cpu.Call(api.Image{}, api.Tape{}, changed(busy(), setBank(x.bank)), x.f, x.args, 0)
		if trap != (api.Trap{Kind: api.Budget}) || !equal(got, x.want) {
			t.Errorf("%v from bank %d: trap %v,\n%s, want\n%s", x.f, x.bank, trap, describe(got), describe(x.want))
		}
		checkNormal(t, "Call", got)
	}
}

func TestP4_9_CallNeedsSpace(t *testing.T) {
	for _, x := range []struct{ used, args, trap int }{
		{4094, 0, api.Budget}, {4095, 0, api.Stack}, {4096, 0, api.Stack}, {5000, 0, api.Stack}, {4091, 3, api.Budget}, {4092, 3, api.Stack}, {4093, 3, api.Stack},
		{4094, 3, api.Stack}, {0, 4094, api.Budget}, {0, 4095, api.Stack}, {0, 4096, api.Stack}, {0, 100000, api.Stack},
	} {
		s := changed(busy(), setStack(numbered(x.used)...))
		for _, most := range []int{-1, 0} {
			got, trap := cpu.Call(program(), someTape, s, api.Place{Bank: 2, Addr: 0x1000}, make([]uint16, x.args), most)
			if trap != (api.Trap{Kind: x.trap}) {
				t.Fatalf("%d words and %d arguments: trap %v", x.used, x.args, trap)
			}
			if x.trap == api.Stack && !equal(got, modelNormal(s)) {
				t.Errorf("%d words and %d arguments: %s", x.used, x.args, describe(got))
			}
			checkNormal(t, "Call", got)
		}
	}
}

// adder returns, in R0, the sum of two arguments. It lies in bank 1.
func adder() api.Image {
	return api.Image{Banks: []string{zeroBank, bankWith(map[int]string{0x0040: text(
		api.Ins{Op: api.ENTER, Imm: 3},
		api.Ins{Op: api.LDF, D: 0, Imm: 0xfffc},
		api.Ins{Op: api.LDF, D: 1, Imm: 0xfffb},
		api.Ins{Op: api.ADD, D: 0, S: 1},
		api.Ins{Op: api.LEAVE},
		api.Ins{Op: api.RET},
	)})}}
}

// The function leaves the arguments, and R0; the bank of the caller is selected again.
func TestP4_9_CallIsRunThen(t *testing.T) {
	s := changed(busy(), setBank(5))
	got, trap := cpu.Call(adder(), api.Tape{}, s, api.Place{Bank: 1, Addr: 0x1040}, []uint16{40, 2}, 100)
	want := called(s, 5, 0xffff, 40, 2)
	want.S.Steps += 6
	want.S.R[0], want.S.R[1], want.S.F = 42, 40, 0
	if trap != (api.Trap{Kind: api.Return}) || !equal(got, want) {
		t.Errorf("trap %v,\n%s, want\n%s", trap, describe(got), describe(want))
	}
	for most := range 6 {
		got, trap := cpu.Call(adder(), api.Tape{}, s, api.Place{Bank: 1, Addr: 0x1040}, []uint16{40, 2}, most)
		if trap != (api.Trap{Kind: api.Budget}) || got.S.Steps != s.S.Steps+most {
			t.Errorf("at most %d: trap %v, %s", most, trap, describe(got))
		}
	}
	if _, trap := cpu.Call(adder(), api.Tape{}, s, api.Place{Bank: 2, Addr: 0x1040}, []uint16{40, 2}, 100); trap != (api.Trap{Kind: api.Fault, Info: 0x1040}) {
		t.Errorf("a bank that does not exist: trap %v", trap)
	}
}

// variants are states that are not the same as busy, each because of one part.
func variants() map[string]api.Snap {
	all := map[string]api.Snap{}
	add := func(what string, change func(*api.Snap)) { all[what] = changed(modelNormal(busy()), change) }
	for k := range 8 {
		add(fmt.Sprintf("R%d", k), func(s *api.Snap) { s.S.R[k]++ })
	}
	add("PC", func(s *api.Snap) { s.S.PC++ })
	add("FP", func(s *api.Snap) { s.S.FP++ })
	add("F", func(s *api.Snap) { s.S.F ^= 0x8000 })
	add("Bank", func(s *api.Snap) { s.S.Bank += 64 })
	add("Steps", func(s *api.Snap) { s.S.Steps++ })
	add("Inputs", func(s *api.Snap) { s.S.Inputs = -1 })
	add("Polls", func(s *api.Snap) { s.S.Polls++ })
	add("first byte", func(s *api.Snap) { s.Ram = "\x01" + s.Ram[1:] })
	add("last byte", func(s *api.Snap) { s.Ram = s.Ram[:8191] + "\x01" })
	add("shorter stack", func(s *api.Snap) { s.Stack = s.Stack[:5] })
	add("longer stack", func(s *api.Snap) { s.Stack = append(s.Stack, 0) })
	add("empty stack", func(s *api.Snap) { s.Stack = nil })
	add("first word", func(s *api.Snap) { s.Stack[0]++ })
	add("last word", func(s *api.Snap) { s.Stack[5]++ })
	add("no events", func(s *api.Snap) { s.Out = nil })
	add("more events", func(s *api.Snap) { s.Out = append(slices.Clone(s.Out), api.Event{}) })
	add("port", func(s *api.Snap) { s.Out = []api.Event{{Port: 1, Value: 2}, {Port: 254, Value: 0xffff}} })
	add("value", func(s *api.Snap) { s.Out = []api.Event{{Port: 1, Value: 3}, {Port: 255, Value: 0xffff}} })
	add("order of events", func(s *api.Snap) { s.Out = []api.Event{{Port: 255, Value: 0xffff}, {Port: 1, Value: 2}} })
	return all
}

func TestP4_10_SameOfDifferent(t *testing.T) {
	for what, s := range variants() {
		if cpu.Same(busy(), s) || cpu.Same(s, busy()) {
			t.Errorf("%s: the same", what)
		}
		if !cpu.Same(s, changed(s)) {
			t.Errorf("%s: not the same as itself", what)
		}
	}
}

func TestP4_10_SameMakesNormal(t *testing.T) {
	full := modelNormal(changed(busy(), setStack(numbered(4096)...)))
	for what, x := range map[string][2]api.Snap{
		"nothing":        {{}, {Ram: zeroBank + zeroBank, Stack: []uint16{}, Out: []api.Event{}}},
		"short RAM":      {busy(), modelNormal(busy())},
		"zeros":          {{Ram: "\x00\x00\x00"}, {}},
		"long RAM":       {busy(), changed(busy(), func(s *api.Snap) { s.Ram = modelNormal(*s).Ram + "more" })},
		"SP":             {busy(), changed(busy(), func(s *api.Snap) { s.S.SP = 3 })},
		"long stack":     {full, changed(full, func(s *api.Snap) { s.Stack = append(s.Stack, 1, 2, 3) })},
		"two long ones":  {changed(full, setStack(numbered(5000)...)), changed(full, setStack(numbered(6000)...))},
		"SP of 0x10000":  {changed(full, setStack(numbered(0x10000)...)), changed(full, setStack(numbered(0x10005)...))},
		"stack and SP":   {changed(busy(), setStack()), changed(busy(), setStack(), func(s *api.Snap) { s.S.SP = 0xffff })},
		"long and short": {{Ram: "\x05" + zeroBank + zeroBank}, {Ram: "\x05"}},
	} {
		if !cpu.Same(x[0], x[1]) || !cpu.Same(x[1], x[0]) {
			t.Errorf("%s: not the same", what)
		}
	}
	if cpu.Same(api.Snap{Ram: "\x05"}, api.Snap{Ram: "\x05\x06"}) || cpu.Same(changed(full, setStack(numbered(5000)...)), changed(full, setStack(numbered(4095)...))) {
		t.Error("different states are the same")
	}
}

func TestP4_11_RunsAdd(t *testing.T) {
	r := random(4)
	for range 60 {
		i, tape, s := r.image(), r.tape(), r.snap()
		for range 20 {
			m, n := r.below(30), 1+r.below(30)
			first, _ := cpu.Run(i, tape, s, m)
			second, trap := cpu.Run(i, tape, first, n)
			at, atTrap := cpu.Run(i, tape, s, m+n)
			if trap != atTrap || !equal(second, at) {
				t.Fatalf("%d and %d steps: trap %v, %s; together: trap %v, %s", m, n, trap, describe(second), atTrap, describe(at))
			}
		}
	}
	s := changed(cpu.Start(counter()), setR(1, 3))
	for m := range 15 {
		first, _ := cpu.Run(counter(), api.Tape{}, s, m)
		second, trap := cpu.Run(counter(), api.Tape{}, first, 15-m)
		if at, atTrap := cpu.Run(counter(), api.Tape{}, s, 15); trap != atTrap || !equal(second, at) || trap.Kind != api.Halt {
			t.Errorf("%d and %d steps: trap %v, %s", m, 15-m, trap, describe(second))
		}
	}
}

func TestP4_11_TrapsRepeat(t *testing.T) {
	r := random(5)
	for range 200 {
		i, tape := r.image(), r.tape()
		s, trap := cpu.Run(i, tape, r.snap(), 200)
		if trap.Kind == api.Budget {
			continue
		}
		step, stepTrap := cpu.Step(i, tape, s)
		run, runTrap := cpu.Run(i, tape, s, 7)
		if stepTrap != trap || runTrap != trap || !equal(step, s) || !equal(run, s) {
			t.Fatalf("trap %v becomes %v and %v", trap, stepTrap, runTrap)
		}
	}
}

// A function that has as many arguments as it likes, and returns with a balanced stack, leaves them.
func TestP4_11_ArgumentsStay(t *testing.T) {
	i := program(api.Ins{Op: api.PUSH, D: 1}, api.Ins{Op: api.ENTER, Imm: 9}, api.Ins{Op: api.LEAVE}, api.Ins{Op: api.DROP, Imm: 1}, api.Ins{Op: api.RET})
	for n := range 10 {
		s, trap := cpu.Call(i, api.Tape{}, busy(), api.Place{}, numbered(20)[:n], 1000)
		want := append(numbered(6), numbered(20)[:n]...)
		if trap.Kind != api.Return || !slices.Equal(s.Stack, want) || s.S.Bank != 1 {
			t.Errorf("%d arguments: trap %v, %s", n, trap, describe(s))
		}
	}
}

// R3: arguments are not modified, and results do not share memory with them.
func TestP1_MemoryIsNotShared(t *testing.T) {
	i := program(api.Ins{Op: api.POP, D: 1}, api.Ins{Op: api.PUSH}, api.Ins{Op: api.OUT, Imm: 8}, api.Ins{Op: api.STA, Imm: 0x4000}, api.Ins{Op: api.IN, Imm: 1}, api.Ins{Op: api.POLL}, api.Ins{Op: api.HLT})
	place := api.Place{}
	for what, call := range map[string]func(api.Snap, api.Tape, []uint16) (api.Snap, api.Trap){
		"Step":  func(s api.Snap, tape api.Tape, _ []uint16) (api.Snap, api.Trap) { return cpu.Step(i, tape, s) },
		"Run 0": func(s api.Snap, tape api.Tape, _ []uint16) (api.Snap, api.Trap) { return cpu.Run(i, tape, s, 0) },
		"Run":   func(s api.Snap, tape api.Tape, _ []uint16) (api.Snap, api.Trap) { return cpu.Run(i, tape, s, 50) },
		"Call 0": func(s api.Snap, tape api.Tape, a []uint16) (api.Snap, api.Trap) {
			return cpu.Call(i, tape, s, place, a, 0)
		},
		"Call": func(s api.Snap, tape api.Tape, a []uint16) (api.Snap, api.Trap) {
			return cpu.Call(i, tape, s, place, a, 50)
		},
		"no step": func(s api.Snap, tape api.Tape, _ []uint16) (api.Snap, api.Trap) {
			return cpu.Step(api.Image{}, tape, s)
		},
	} {
		// The capacity of the slices is greater than their length, so that an append would show.
		stack := append(make([]uint16, 0, 100), 9, 8, 7, 0x55)[:3]
		out := append(make([]api.Event, 0, 100), api.Event{Port: 3}, api.Event{Port: 4})[:1]
		args := append(make([]uint16, 0, 100), 1, 2, 3)[:2]
		tape := api.Tape{In: []uint16{5, 6}, Irq: []byte{1, 1}}
		s := api.Snap{S: api.State{R: [8]uint16{0x77}}, Ram: "abc", Stack: stack, Out: out}
		first, trap := call(s, tape, args)
		for k := range first.Stack {
			first.Stack[k] ^= 0xffff
		}
		for k := range first.Out {
			first.Out[k].Port ^= 0xffff
		}
		if !slices.Equal(stack[:4], []uint16{9, 8, 7, 0x55}) || out[0].Port != 3 || out[:2][1].Port != 4 || !slices.Equal(args[:3], []uint16{1, 2, 3}) ||
			!slices.Equal(tape.In, []uint16{5, 6}) || string(tape.Irq) != "\x01\x01" || s.Ram != "abc" || s.S != (api.State{R: [8]uint16{0x77}}) {
			t.Errorf("%s: an argument has changed", what)
		}
		if again, againTrap := call(s, tape, args); againTrap != trap || len(again.Stack) != len(first.Stack) || again.S != first.S {
			t.Errorf("%s: the second call returns something else", what)
		}
	}
}

// P1: no call panics, whatever its arguments are.
func TestP1_AnyArguments(t *testing.T) {
	r := random(6)
	for range 300 {
		i, tape, s := r.image(), r.tape(), r.snap()
		f := api.Place{Bank: pick(&r, 0, 1, -1, math.MinInt, math.MaxInt), Addr: r.word()}
		state, trap := cpu.Call(i, tape, s, f, numbered(r.below(12)), r.below(100))
		checkNormal(t, fmt.Sprintf("Call, trap %v", trap), state)
		if trap.Kind == api.NoTrap || trap.Kind > api.Budget || trap.Info != 0 && trap.Kind != api.Fault {
			t.Fatalf("Call of %v ends with trap %v", f, trap)
		}
	}
}
