package scan

import (
	"slices"

	"vellum/api"
	"vellum/image"
	"vellum/isa"
)

// spot is what is at a place: an instruction, or no instruction, and what follows from it.
type spot struct {
	item    api.Item // the Ins is zero if there is no instruction
	next    []api.Place
	callees []api.Place
	issues  []api.Errno // in order, each once
}

// look returns what is at a place of an image.
func look(i api.Image, at api.Place) spot {
	ins, err := instructionAt(i, at)
	s := spot{item: api.Item{At: at, Ins: ins}}
	if err != api.OK {
		s.complain(err)
		return s
	}
	if isa.Falls(ins) {
		behind, inPart := image.Next(at, ins.Size)
		s.succeed(behind, inPart, api.ErrExit)
	}
	s.leave(i)
	slices.Sort(s.issues)
	s.issues = slices.Compact(s.issues)
	return s
}

// instructionAt returns the instruction at a place, or why there is none.
func instructionAt(i api.Image, at api.Place) (api.Ins, api.Errno) {
	first := image.Code(i, at, 1)
	if first == "" {
		return api.Ins{}, api.ErrExit
	}
	size := isa.Size(first[0])
	if size == 0 {
		return api.Ins{}, api.ErrIllegal
	}
	// The bytes before the last one exist, and are in the same part, if this holds for the last one.
	last, inPart := image.Next(at, size-1)
	if !inPart || image.Code(i, last, 1) == "" {
		return api.Ins{}, api.ErrExit
	}
	ins, err := isa.Decode(image.Code(i, at, size))
	if err != api.OK {
		return api.Ins{}, api.ErrIllegal
	}
	return ins, api.OK
}

// complain adds an issue.
func (s *spot) complain(kind api.Errno) {
	s.issues = append(s.issues, kind)
}

// succeed adds a successor, or an issue if there is no such place or it is not known.
func (s *spot) succeed(to api.Place, known bool, otherwise api.Errno) {
	if known {
		s.next = append(s.next, to)
	} else {
		s.complain(otherwise)
	}
}

// leave adds all places to which an instruction goes, but for the one behind it.
func (s *spot) leave(i api.Image) {
	switch ins := s.item.Ins; ins.Op {
	case api.CALL, api.CALLF:
		s.call()
	case api.JTAB:
		s.jump()
		s.jumpByTable(i)
	case api.JMPI:
		s.complain(api.ErrTable)
	case api.OUT:
		if ins.Imm == 0 {
			s.complain(api.ErrBank)
		}
	default:
		if isJump(ins.Op) {
			s.jump()
		}
	}
}

// isJump reports whether the operation of an instruction, which is neither a call nor uses a table, is a jump.
func isJump(op int) bool {
	// Both forms of the conditional jumps begin at JCC, the others at JMP.
	return op >= api.JCC && op <= api.JMPF
}

// call adds the function that an instruction calls.
func (s *spot) call() {
	if callee, known := isa.Target(s.item.Ins, s.item.At); known {
		s.callees = append(s.callees, callee)
	} else {
		s.complain(api.ErrBank)
	}
}

// jump adds the target of a jump, or the default of a jump by a table.
func (s *spot) jump() {
	target, known := isa.Target(s.item.Ins, s.item.At)
	s.succeed(target, known, api.ErrBank)
}

// jumpByTable adds the places that the entries of a jump's table are.
func (s *spot) jumpByTable(i api.Image) {
	for k := range s.item.Ins.Bank {
		cells, err := cellsOfEntry(i, s.item, k)
		if err != api.OK {
			s.complain(err)
			continue
		}
		low, high := cells[0].in(i), cells[1].in(i)
		to, known := placeSeen(uint16(low)|uint16(high)<<8, s.item.At)
		s.succeed(to, known, api.ErrBank)
	}
}

// isThunk reports whether a routine that begins with an instruction is a thunk.
func (s *spot) isThunk() bool {
	return s.item.Ins.Op == api.JMPF
}

// isInstruction reports whether there is an instruction.
func (s *spot) isInstruction() bool {
	return s.item.Ins.Size > 0
}

// cell is the position of a byte in the banks of an image.
type cell struct{ bank, off int }

// in returns the byte of an image at a position.
func (c cell) in(i api.Image) byte {
	return i.Banks[c.bank][c.off]
}

// cellsOfEntry returns where the bytes of an entry of a jump's table are, or why there is no such entry.
func cellsOfEntry(i api.Image, jump api.Item, k int) ([2]cell, api.Errno) {
	var cells [2]cell
	complete := true
	for n := range cells {
		at, known := placeSeen(jump.Ins.Aux+uint16(2*k+n), jump.At)
		if !known {
			return [2]cell{}, api.ErrBank
		}
		bank, off, exists := image.Offset(i, at)
		cells[n] = cell{bank: bank, off: off}
		complete = complete && exists
	}
	// A place that is not known comes first, also if it is that of the second byte.
	if !complete {
		return [2]cell{}, api.ErrTable
	}
	return cells, api.OK
}

// placeSeen returns the place of an address as seen from a place, and whether it is known.
func placeSeen(addr uint16, from api.Place) (api.Place, bool) {
	switch {
	case !inWindow(addr):
		return api.Place{Addr: addr}, true
	case inWindow(from.Addr):
		return api.Place{Bank: from.Bank, Addr: addr}, true
	}
	return api.Place{}, false
}

// inWindow reports whether an address is in the window.
func inWindow(addr uint16) bool {
	return addr >= api.Window && addr < api.WindowEnd
}
