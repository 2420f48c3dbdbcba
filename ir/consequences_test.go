package ir_test

import (
	"fmt"
	"slices"
	"testing"

	"vellum/api"
	"vellum/ir"
)

// sameAs compares two evaluations.
func sameAs(t *testing.T, what string, a, b start) {
	t.Helper()
	if x, y := a.run(), b.run(); !sameRun(x, y) {
		t.Fatalf("%s: f%d with %v, %v: %+v, want %+v: %s", what, a.f, a.args, a.t, brief(y), brief(x), printed(a.p))
	}
}

func TestP7_6_MoreFuel(t *testing.T) {
	randomStarts(21, 300, func(r *random, s start) {
		want := s.run()
		if want.Trap.Kind != api.Budget {
			more := s
			for _, fuel := range []int{1, 2, 1 << 20, 1 << 40} {
				more.fuel = s.fuel + fuel
				sameAs(t, "more fuel", s, more)
			}
			return
		}
		// Less fuel leads to fewer events, inputs and polls.
		less := s
		less.fuel = r.below(s.fuel + 1)
		got := less.run()
		if got.Trap != want.Trap || got.Inputs > want.Inputs || got.Polls > want.Polls || len(got.Out) > len(want.Out) || !slices.Equal(got.Out, want.Out[:len(got.Out)]) {
			t.Fatalf("%d units: %+v, %d units: %+v: %s", less.fuel, brief(got), s.fuel, brief(want), printed(s.p))
		}
	})
}

func TestP7_6_LeastFuel(t *testing.T) {
	// With each amount of fuel from 0 on, an evaluation ends with trap Budget, until there is enough.
	ended := 0
	randomStarts(22, 20, func(r *random, s start) {
		s.fuel = 150
		want := s.run()
		enough := false
		for fuel := range s.fuel + 1 {
			less := s
			less.fuel = fuel
			got := less.run()
			if enough && got.Trap.Kind == api.Budget || got.Trap.Kind != api.Budget && !sameRun(got, want) {
				t.Fatalf("%d units: %+v, %d units: %+v: %s", fuel, brief(got), s.fuel, brief(want), printed(s.p))
			}
			enough = got.Trap.Kind != api.Budget
		}
		if enough {
			ended++
		}
	})
	if ended < 40 {
		t.Errorf("only %d evaluations end", ended)
	}
}

// renumbered returns a function whose values have other numbers, and whose blocks but for block 0 have another order.
func (r *random) renumbered(f api.IrFunc) api.IrFunc {
	old := clonedFunction(f)
	numbers := r.numbers()
	names := map[int]int{}
	rename := func(v *int) {
		if *v == -1 {
			return
		}
		if _, ok := names[*v]; !ok {
			names[*v] = numbers[len(names)]
		}
		*v = names[*v]
	}
	renameAll := func(list []int) {
		for k := range list {
			rename(&list[k])
		}
	}
	places := list(0)
	for _, k := range r.permutation(max(0, len(old.Blocks)-1)) {
		places = append(places, k+1)
	}
	other := api.IrFunc{Blocks: make([]api.IrBlock, len(old.Blocks))}
	for b, x := range old.Blocks {
		renameAll(x.Params)
		for k := range x.Ops {
			o := &x.Ops[k]
			fields := modelFields[o.Code]
			rename(&o.Res)
			renameAll(o.Args)
			for _, field := range fields {
				switch field {
				case 'A':
					rename(&o.A)
				case 'B':
					rename(&o.B)
				}
			}
		}
		if k := x.Term.Kind; k == api.TBranch || k == api.TSwitch || k == api.TReturn {
			rename(&x.Term.A)
		}
		for k := range x.Term.To {
			x.Term.To[k].Block = places[x.Term.To[k].Block]
			renameAll(x.Term.To[k].Args)
		}
		other.Blocks[places[b]] = x
	}
	return other
}

func TestP7_6_Numbers(t *testing.T) {
	r := random(23)
	for range 600 {
		p := r.program(r.below(2) == 0)
		other := cloned(p)
		for n := range other.Funcs {
			other.Funcs[n] = r.renumbered(other.Funcs[n])
		}
		if e := ir.Valid(other); e != api.OK {
			t.Fatalf("with other numbers: %v: %s", e, printed(other))
		}
		for range 3 {
			a := r.start(p)
			b := a
			b.p = other
			sameAs(t, "other numbers", a, b)
		}
	}
}

// called tells which functions may be called from a function.
func called(p api.IrProg, f int) map[int]bool {
	reached := map[int]bool{f: true}
	for todo := list(f); len(todo) > 0; todo = todo[1:] {
		for _, x := range p.Funcs[todo[0]].Blocks {
			for _, o := range x.Ops {
				callee := -1
				switch o.Code {
				case api.ICall:
					callee = o.A
				case api.IPoll:
					callee = p.Handler
				}
				if callee >= 0 && !reached[callee] {
					reached[callee] = true
					todo = append(todo, callee)
				}
			}
		}
	}
	return reached
}

func TestP7_6_FunctionsThatAreNotCalled(t *testing.T) {
	r := random(24)
	for range 600 {
		p := r.program(false)
		a := r.start(p)
		b := a
		b.p = cloned(p)
		for n := range p.Funcs {
			if !called(p, a.f)[n] {
				var params []int
				for k := range p.Args[n] {
					params = append(params, 50000+k)
				}
				b.p.Funcs[n] = function(block(params, ret(7), konst(7, 1)))
				if r.below(2) == 0 {
					b.p.Funcs[n] = api.IrFunc{}
				}
			}
		}
		b.p.Funcs = append(b.p.Funcs, api.IrFunc{}, function(block(list(65535), halt())))
		b.p.Args = append(b.p.Args, 3, 1)
		b.p.Data = append(b.p.Data, api.Object{Bank: api.RamBank, Addr: 0x4000, Size: 1})
		sameAs(t, "other functions", a, b)
	}
}

func TestP7_6_InputsThatAreNotUsed(t *testing.T) {
	more := 0
	randomStarts(25, 300, func(r *random, a start) {
		run := a.run()
		b := a
		b.t.In = append(slices.Clone(a.t.In[:run.Inputs]), r.words(r.below(3))...)
		if run.Inputs == len(a.t.In) {
			b.t.In = a.t.In // it may have been read beyond its end
		} else {
			more++
		}
		b.t.Irq = append(slices.Clone(a.t.Irq[:run.Polls]), 1, 1)
		if run.Polls == len(a.t.Irq) {
			b.t.Irq = a.t.Irq
		}
		sameAs(t, fmt.Sprintf("other inputs behind %d and %d", run.Inputs, run.Polls), a, b)
	})
	if more < 100 {
		t.Errorf("only %d tapes have inputs that are not used", more)
	}
}

func TestP7_6_OtherEmptyLists(t *testing.T) {
	// nil and empty lists are the same.
	empty := func(list []int) []int { return append([]int{}, list...) }
	randomStarts(26, 200, func(r *random, a start) {
		b := a
		b.p = cloned(a.p)
		b.args, b.t.In, b.t.Irq = append([]uint16{}, a.args...), append([]uint16{}, a.t.In...), append([]byte{}, a.t.Irq...)
		for n := range b.p.Funcs {
			b.p.Funcs[n].Blocks = append([]api.IrBlock{}, b.p.Funcs[n].Blocks...)
			for k := range b.p.Funcs[n].Blocks {
				x := &b.p.Funcs[n].Blocks[k]
				x.Params, x.Ops, x.Term.To = empty(x.Params), append([]api.IrOp{}, x.Ops...), append([]api.Edge{}, x.Term.To...)
				for m := range x.Ops {
					x.Ops[m].Args = empty(x.Ops[m].Args)
				}
			}
			if ir.Print(b.p.Funcs[n]) != ir.Print(a.p.Funcs[n]) {
				t.Fatalf("Print: %s", ir.Print(b.p.Funcs[n]))
			}
		}
		sameAs(t, "empty lists", a, b)
	})
}
