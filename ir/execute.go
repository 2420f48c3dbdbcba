package ir

import "vellum/api"

// execute executes an operation of a function that was called at a depth.
func (e *evaluation) execute(o *api.IrOp, frame []uint16, depth int) {
	switch o.Code {
	case api.IConst:
		frame[o.Res] = o.N
	case api.IObj:
		frame[o.Res] = e.program.Data[o.A].Addr + o.N
	case api.INeg:
		frame[o.Res] = -frame[o.A]
	case api.INot:
		frame[o.Res] = ^frame[o.A]
	case api.ILoad:
		frame[o.Res] = e.ramWord(frame[o.A])
	case api.ILoadb:
		frame[o.Res] = uint16(e.ramByte(frame[o.A]))
	case api.IStore:
		e.storeWord(frame[o.A], frame[o.B])
	case api.IStoreb:
		e.storeByte(frame[o.A], byte(frame[o.B]))
	case api.IRom:
		frame[o.Res] = e.romWord(int(o.N), frame[o.A])
	case api.IRomb:
		frame[o.Res] = uint16(e.romByte(int(o.N), frame[o.A]))
	case api.IIn:
		frame[o.Res] = e.nextInput()
	case api.IOut:
		e.out = append(e.out, api.Event{Port: o.N, Value: frame[o.A]})
	case api.ICall:
		e.callFrom(o, frame, depth)
	case api.IPoll:
		if e.isInterrupted() && e.program.Handler != -1 {
			e.call(e.program.Handler, nil, depth+1)
		}
	default:
		frame[o.Res] = combined(o.Code, frame[o.A], frame[o.B])
	}
}

// callFrom executes an ICall of a function that was called at a depth.
func (e *evaluation) callFrom(o *api.IrOp, frame []uint16, depth int) {
	var args [api.MaxArgs]uint16
	for k, v := range o.Args {
		args[k] = frame[v]
	}
	value := e.call(o.A, args[:len(o.Args)], depth+1)
	if hasResult(o) {
		frame[o.Res] = value
	}
}

// combined returns the result of an operation with two operands.
func combined(code int, a, b uint16) uint16 {
	switch code {
	case api.IAdd:
		return a + b
	case api.ISub:
		return a - b
	case api.IMul:
		return a * b
	case api.IDiv:
		demand(b != 0, api.Divide, 0)
		return a / b
	case api.IAnd:
		return a & b
	case api.IOr:
		return a | b
	case api.IXor:
		return a ^ b
	case api.IShl:
		return a << (b % 16)
	case api.IShr:
		return a >> (b % 16)
	case api.ISar:
		return uint16(int16(a) >> (b % 16))
	case api.IEq:
		return truth(a == b)
	case api.ILtu:
		return truth(a < b)
	case api.ILts:
		return truth(int16(a) < int16(b))
	}
	return 0
}

// truth returns 1 if a comparison holds, and otherwise 0.
func truth(holds bool) uint16 {
	if holds {
		return 1
	}
	return 0
}

// nextInput returns the next word of the tape, or 0 if there is none.
func (e *evaluation) nextInput() uint16 {
	if e.inputs == len(e.tape.In) {
		return 0
	}
	e.inputs++
	return e.tape.In[e.inputs-1]
}

// isInterrupted takes the next element of the tape of interrupts, and reports whether one is pending.
func (e *evaluation) isInterrupted() bool {
	if e.polls == len(e.tape.Irq) {
		return false
	}
	e.polls++
	return e.tape.Irq[e.polls-1] != 0
}
