package ir

import "vellum/api"

// deepest is the greatest depth of a call; the function that is evaluated is called at depth 1.
const deepest = 100

// evaluation is an evaluation of a function of a valid program.
//
// In a valid program a value is used only after it was defined. Therefore the values of a call that has ended need not
// be cleared for the next one.
type evaluation struct {
	program   *api.IrProg
	tape      api.Tape
	fuel      int
	ram       [api.RamSize]byte
	out       []api.Event
	inputs    int
	polls     int
	frameSize int
	frames    [][]uint16 // by depth: the values of a function
	passed    []uint16   // the arguments of an edge, while they become the values of parameters
}

// begin returns an evaluation that has not done anything.
func begin(p api.IrProg, ram string, t api.Tape, fuel int) *evaluation {
	e := &evaluation{program: &p, tape: t, fuel: fuel}
	copy(e.ram[:], ram)
	for _, f := range p.Funcs {
		e.frameSize = max(e.frameSize, Count(f))
	}
	return e
}

// run calls a function and returns the result of the evaluation.
func (e *evaluation) run(f int, args []uint16) api.Run {
	value, trap := e.attempt(f, args)
	return api.Run{Value: value, Out: e.out, Trap: trap, Ram: string(e.ram[:]), Inputs: e.inputs, Polls: e.polls}
}

// attempt calls a function, and returns its value and the trap that ends the evaluation.
func (e *evaluation) attempt(f int, args []uint16) (value uint16, trap api.Trap) {
	defer func() {
		if raised, ok := recover().(api.Trap); ok {
			value, trap = 0, raised
		}
	}()
	return e.call(f, args, 1), api.Trap{Kind: api.Return}
}

// demand ends the evaluation with a trap if a condition does not hold.
func demand(holds bool, kind int, info uint16) {
	if !holds {
		panic(api.Trap{Kind: kind, Info: info})
	}
}

// takeFuel takes one unit of fuel.
func (e *evaluation) takeFuel() {
	demand(e.fuel > 0, api.Budget, 0)
	e.fuel--
}

// call calls a function and returns its value.
func (e *evaluation) call(f int, args []uint16, depth int) uint16 {
	demand(depth <= deepest, api.Stack, 0)
	blocks := e.program.Funcs[f].Blocks
	demand(len(blocks) > 0, api.Extern, uint16(f))
	frame := e.frame(depth)
	block := &blocks[0]
	for k, v := range block.Params {
		frame[v] = args[k]
	}
	for {
		for k := range block.Ops {
			e.takeFuel()
			e.execute(&block.Ops[k], frame, depth)
		}
		e.takeFuel()
		t := &block.Term
		demand(t.Kind != api.THalt, api.Halt, 0)
		if t.Kind == api.TReturn {
			return returned(t, frame)
		}
		edge := chosen(t, frame)
		block = &blocks[edge.Block]
		e.pass(edge.Args, block.Params, frame)
	}
}

// frame returns the memory for the values of a function that is called at a depth, after one less than it.
func (e *evaluation) frame(depth int) []uint16 {
	if depth > len(e.frames) {
		e.frames = append(e.frames, make([]uint16, e.frameSize))
	}
	return e.frames[depth-1]
}

// returned returns the value that a TReturn returns.
func returned(t *api.Term, frame []uint16) uint16 {
	if t.A == -1 {
		return 0
	}
	return frame[t.A]
}

// chosen returns the edge that a terminator takes.
func chosen(t *api.Term, frame []uint16) *api.Edge {
	last := len(t.To) - 1
	switch {
	case t.Kind == api.TBranch && frame[t.A] != 0:
		return &t.To[0]
	case t.Kind == api.TSwitch:
		return &t.To[min(int(frame[t.A]), last)]
	}
	return &t.To[last]
}

// pass gives parameters the values of arguments, all at once: a parameter may be an argument, too.
func (e *evaluation) pass(args, params []int, frame []uint16) {
	e.passed = e.passed[:0]
	for _, v := range args {
		e.passed = append(e.passed, frame[v])
	}
	for k, v := range params {
		frame[v] = e.passed[k]
	}
}
