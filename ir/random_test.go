package ir_test

import (
	"slices"
	"testing"

	"vellum/api"
	"vellum/ir"
)

// program returns a valid program. Values have any numbers, if it is sparse.
func (r *random) program(sparse bool) api.IrProg {
	p := api.IrProg{Handler: -1}
	for range 1 + r.below(5) {
		p.Args = append(p.Args, max(0, r.below(5)-1))
	}
	if r.below(8) == 0 {
		p.Args[0] = 8
	}
	p.Entry = r.below(len(p.Args))
	p.Args[p.Entry] = 0
	if h := r.below(len(p.Args)); p.Args[h] == 0 {
		p.Handler = h
	}
	for k := range r.below(4) {
		p.Banks = append(p.Banks, numberedBank(k))
		p.Data = append(p.Data, api.Object{Bank: k, Addr: uint16(r.below(4000)), Size: uint16(1 + r.below(96))})
	}
	for k := range r.below(4) {
		p.Data = append(p.Data, api.Object{Bank: api.RamBank, Addr: uint16(0x5f00 - 0x100*k + r.below(16)), Size: uint16(1 + r.below(240))})
	}
	for f := range p.Args {
		m := &maker{random: r, p: p, isAddress: map[int]bool{}, next: r.below(4)}
		if sparse {
			m.numbers = r.numbers()
		}
		p.Funcs = append(p.Funcs, m.function(f))
	}
	return p
}

// numbers returns some different numbers of values, of which each function needs less.
func (r *random) numbers() []int {
	numbers := list(0, 65535)
	for range 200 {
		numbers = append(numbers, r.below(1<<16))
	}
	slices.Sort(numbers)
	numbers = slices.Compact(numbers)
	var shuffled []int
	for _, k := range r.permutation(len(numbers)) {
		shuffled = append(shuffled, numbers[k])
	}
	return shuffled
}

// maker makes a function of a program of which only the functions are missing.
type maker struct {
	*random
	p         api.IrProg
	numbers   []int // the numbers of the values, or nil
	next      int   // how many values there are
	blocks    []api.IrBlock
	isAddress map[int]bool
}

func (m *maker) value() int {
	m.next++
	if m.numbers != nil {
		return m.numbers[m.next]
	}
	return m.next
}

func (m *maker) function(f int) api.IrFunc {
	if m.below(6) == 0 {
		return api.IrFunc{}
	}
	m.blocks = make([]api.IrBlock, 1+m.below(7))
	m.addEdges()
	for b := range m.blocks {
		m.addDefinitions(b, f)
	}
	for b := range m.blocks {
		m.addOperands(b)
	}
	return api.IrFunc{Blocks: m.blocks}
}

// addEdges makes edges such that all blocks can be reached, and terminators for them.
func (m *maker) addEdges() {
	lead := func(from, to int) {
		t := &m.blocks[from].Term
		t.To = slices.Insert(t.To, m.below(len(t.To)+1), edge(to))
	}
	for b := 1; b < len(m.blocks); b++ {
		lead(m.below(b), b)
		if m.below(3) == 0 {
			lead(m.below(len(m.blocks)), b)
		}
	}
	for b := range m.blocks {
		t := &m.blocks[b].Term
		switch len(t.To) {
		case 0:
			t.Kind = api.TReturn
			if m.below(5) == 0 {
				t.Kind = api.THalt
			}
		case 1:
			t.Kind = api.TJump
		case 2:
			t.Kind = api.TBranch
		}
		if len(t.To) > 2 || len(t.To) > 0 && m.below(4) == 0 {
			t.Kind = api.TSwitch
		}
	}
}

// addDefinitions makes the parameters and the operations of a block, without operands.
func (m *maker) addDefinitions(b, f int) {
	params := m.below(4)
	if b == 0 {
		params = m.p.Args[f]
		m.blocks[0].Ops = append(m.blocks[0].Ops, konst(m.value(), m.word()))
	}
	for range params {
		m.blocks[b].Params = append(m.blocks[b].Params, m.value())
	}
	for range m.below(7) {
		o := m.operation(codes[m.below(len(codes))])
		m.blocks[b].Ops = append(m.blocks[b].Ops, o)
		m.isAddress[o.Res] = o.Code == api.IObj || o.Code == api.IConst && o.N >= 0x4000 && o.N < 0x6000
	}
}

func (m *maker) operation(code int) api.IrOp {
	if m.below(4) == 0 || code >= api.ILoad && code <= api.IRomb && m.below(2) == 0 {
		code = api.IConst // so that other operations have operands, and not too many of them trap
	}
	o := api.IrOp{Code: code, Res: -1}
	for _, field := range modelFields[code] {
		switch field {
		case 'R':
			o.Res = m.value()
		case 'r':
			if m.below(2) == 0 {
				o.Res = m.value()
			}
		case 'O':
			if len(m.p.Data) == 0 {
				return konst(o.Res, 0x4000+uint16(m.below(0x2000)))
			}
			o.A = m.below(len(m.p.Data))
		case 'F':
			o.A = m.below(len(m.p.Args))
			o.Args = make([]int, m.p.Args[o.A])
		case 'N':
			o.N = m.word()
			if code != api.IConst {
				o.N = uint16(m.below(4))
			}
		case 'P':
			o.N = uint16(1 + m.below(255))
		}
	}
	return o
}

// addOperands chooses the values that a block uses.
func (m *maker) addOperands(b int) {
	var known []int
	for d, x := range m.blocks {
		if d != b && !modelReach(m.blocks, d)[b] {
			known = append(known, x.Params...)
			for _, o := range x.Ops {
				if o.Res != -1 {
					known = append(known, o.Res)
				}
			}
		}
	}
	x := &m.blocks[b]
	known = append(known, x.Params...)
	pick := func() int { return known[m.below(len(known))] }
	for k := range x.Ops {
		o := &x.Ops[k]
		for _, field := range modelFields[o.Code] {
			switch field {
			case 'A':
				o.A = pick()
				for range 6 {
					if o.Code >= api.ILoad && o.Code <= api.IStoreb && !m.isAddress[o.A] {
						o.A = pick()
					}
				}
			case 'B':
				o.B = pick()
			}
		}
		for n := range o.Args {
			o.Args[n] = pick()
		}
		if o.Res != -1 {
			known = append(known, o.Res)
		}
	}
	t := &x.Term
	if t.Kind == api.TBranch || t.Kind == api.TSwitch {
		t.A = pick()
	}
	if t.Kind == api.TReturn {
		t.A = -1
		if m.below(4) > 0 {
			t.A = pick()
		}
	}
	for n := range t.To {
		for range m.blocks[t.To[n].Block].Params {
			t.To[n].Args = append(t.To[n].Args, pick())
		}
	}
}

// start is with what an evaluation of a program begins.
type start struct {
	p    api.IrProg
	f    int
	args []uint16
	ram  string
	t    api.Tape
	fuel int
}

func (s start) run() api.Run { return ir.Eval(s.p, s.f, s.args, s.ram, s.t, s.fuel) }

func (s start) model() api.Run { return modelEval(s.p, s.f, s.args, s.ram, s.t, s.fuel) }

// start chooses with what an evaluation of a program begins.
func (r *random) start(p api.IrProg) start {
	s := start{p: p, f: r.below(len(p.Funcs)), fuel: r.below(800)}
	s.args = r.words(p.Args[s.f])
	s.t.In = r.words(r.below(6))
	for range r.below(6) {
		s.t.Irq = append(s.t.Irq, byte(r.below(3)))
	}
	s.ram = numberedBank(r.below(100)) + numberedBank(7) + "more"
	if r.below(2) == 0 {
		s.ram = s.ram[r.below(len(s.ram)):]
	}
	return s
}

// randomStarts calls a function for evaluations of random programs, a few of each program.
func randomStarts(seed random, programs int, each func(r *random, s start)) {
	r := seed
	for n := range programs {
		p := r.program(n%4 == 0)
		for range 4 {
			each(&r, r.start(p))
		}
	}
}

func TestP7_2_RandomPrograms(t *testing.T) {
	ends := map[int]int{}
	randomStarts(1, 1000, func(r *random, s start) {
		before := cloned(s.p)
		if e := modelValid(s.p); e != api.OK {
			t.Fatalf("the test makes wrong programs: %v: %s", e, printed(s.p))
		}
		if e := ir.Valid(s.p); e != api.OK {
			t.Fatalf("Valid: %v: %s", e, printed(s.p))
		}
		got, want := s.run(), s.model()
		if !sameRun(got, want) {
			t.Fatalf("Eval of f%d with %v, %v, %d: %+v, want %+v: %s", s.f, s.args, s.t, s.fuel, brief(got), brief(want), printed(s.p))
		}
		if again := s.run(); !sameRun(got, again) {
			t.Fatalf("Eval, again: %+v, %+v", brief(got), brief(again))
		}
		if !sameProgram(s.p, before) {
			t.Fatalf("the program was changed: %s", printed(before))
		}
		ends[got.Trap.Kind]++
	})
	for kind, most := range map[int]int{api.Halt: 150, api.Fault: 500, api.Divide: 15, api.Return: 600, api.Budget: 150, api.Extern: 150, api.Stack: 50} {
		if ends[kind] < most {
			t.Errorf("only %d evaluations end with trap %d", ends[kind], kind)
		}
	}
}

func TestP7_5_RandomPrograms(t *testing.T) {
	r := random(2)
	for n := range 1000 {
		p := r.program(n%2 == 0)
		for range r.below(3) {
			r.spoil(&p)
		}
		for _, f := range p.Funcs {
			if got, want := ir.Print(f), modelPrint(f); got != want {
				t.Fatalf("Print: %q, want %q", got, want)
			}
		}
	}
}

// number returns a number that may be wrong somewhere.
func (r *random) number() int {
	switch r.below(8) {
	case 0:
		return farNumbers[r.below(len(farNumbers))]
	case 1:
		return r.below(1 << 16)
	}
	return r.below(40) - 2
}

// spoil changes something in a program, which may make it invalid.
func (r *random) spoil(p *api.IrProg) {
	*p = cloned(*p)
	switch n := r.below(20); {
	case n == 0 && len(p.Data) > 0:
		r.spoilObject(&p.Data[r.below(len(p.Data))])
	case n == 1:
		p.Entry = r.number()
	case n == 2:
		p.Handler = r.number()
	case n == 3:
		p.Args[r.below(len(p.Args))] = r.below(12) - 1
	case n == 4 && len(p.Banks) > 0:
		p.Banks = p.Banks[:r.below(len(p.Banks))]
	case n == 5:
		p.Funcs = append(p.Funcs, api.IrFunc{})
		p.Args = append(p.Args, r.below(10))
	case n > 5:
		if f := &p.Funcs[r.below(len(p.Funcs))]; len(f.Blocks) > 0 {
			r.spoilBlock(f, r.below(len(f.Blocks)))
		}
	}
}

func (r *random) spoilObject(o *api.Object) {
	switch r.below(3) {
	case 0:
		o.Bank = r.below(6) - 2
	case 1:
		o.Addr = r.word()
	case 2:
		o.Size = r.word()
	}
}

func (r *random) spoilBlock(f *api.IrFunc, b int) {
	x := &f.Blocks[b]
	switch r.below(8) {
	case 0:
		x.Params = append(x.Params, r.number())
	case 1:
		if len(x.Params) > 0 {
			x.Params[r.below(len(x.Params))] = r.number()
		}
	case 2:
		f.Blocks = append(f.Blocks, block(nil, ret(-1)))
	case 3, 4:
		r.spoilTerminator(&x.Term)
	default:
		if len(x.Ops) > 0 {
			r.spoilOperations(x, r.below(len(x.Ops)))
		}
	}
}

func (r *random) spoilTerminator(t *api.Term) {
	switch n := r.below(7); {
	case n == 0:
		t.Kind = r.below(8) - 1
	case n == 1:
		t.A = r.number()
	case n == 2:
		t.To = append(t.To, edge(r.below(8)))
	case n > 2 && len(t.To) > 0:
		e := &t.To[r.below(len(t.To))]
		switch {
		case n == 3:
			e.Block = r.number()
		case n == 4:
			e.Args = append(e.Args, r.number())
		case n == 5 && len(e.Args) > 0:
			e.Args[r.below(len(e.Args))] = r.number()
		case n == 6:
			t.To = t.To[1:]
		}
	}
}

func (r *random) spoilOperations(x *api.IrBlock, k int) {
	o := &x.Ops[k]
	switch r.below(9) {
	case 0:
		o.Code = r.below(30) - 1
	case 1:
		o.Res = r.number()
	case 2:
		o.A = r.number()
	case 3:
		o.B = r.number()
	case 4:
		o.N = r.word()
	case 5:
		o.Args = append(o.Args, r.number())
	case 6:
		if len(o.Args) > 0 {
			o.Args[r.below(len(o.Args))] = r.number()
		}
	case 7:
		x.Ops[0], *o = *o, x.Ops[0]
	case 8:
		x.Ops = slices.Delete(x.Ops, k, k+1)
	}
}

func TestP7_1_RandomPrograms(t *testing.T) {
	errors := map[api.Errno]int{}
	r := random(3)
	for n := range 3000 {
		p := r.program(n%2 == 0)
		for range 1 + r.below(2) {
			r.spoil(&p)
		}
		before := cloned(p)
		want := modelValid(p)
		if got := ir.Valid(p); got != want {
			t.Fatalf("Valid: %v, want %v: %+v: %s", got, want, p.Data, printed(p))
		}
		errors[want]++
		if s := r.start(p); len(s.args) == p.Args[s.f] && p.Args[s.f] >= 0 {
			if got, want := s.run(), s.model(); !sameRun(got, want) {
				t.Fatalf("Eval of f%d: %+v, want %+v: %s", s.f, brief(got), brief(want), printed(p))
			}
		}
		if !sameProgram(p, before) {
			t.Fatalf("the program was changed: %s", printed(before))
		}
	}
	for e, most := range map[api.Errno]int{api.OK: 500, api.ErrArg: 300, api.ErrPlace: 100, api.ErrGraph: 1000} {
		if errors[e] < most {
			t.Errorf("only %d programs have error %d", errors[e], e)
		}
	}
}
