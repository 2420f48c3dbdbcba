package cpu_test

import (
	"fmt"
	"testing"

	"vellum/api"
)

// possible tells which traps instructions can raise, besides those of fetching.
func possible(op, kind int) bool {
	switch kind {
	case api.NoTrap:
		return op != api.HLT
	case api.Halt:
		return op == api.HLT
	case api.Divide:
		return op == api.DIV || op == api.DIV+0x10 || op == api.DIV+0x20
	case api.Stack:
		switch op {
		case api.RET, api.IRET, api.POLL, api.LEAVE, api.PUSH, api.POP, api.ENTER, api.DROP, api.CALL, api.CALLF, api.LDS, api.STS, api.LDF, api.STF:
			return true
		}
		return false
	case api.Fault:
		return true
	}
	return false
}

func TestP4_StepIsThatOfTheModel(t *testing.T) {
	r := random(1)
	seen := map[[2]int]int{}
	for range 100 {
		i, tape := r.image(), r.tape()
		for k := range 4 * len(ops) {
			s, op := r.snap(), ops[k/4]
			with := put(i, s.S, text(r.instruction(op)))
			trap := checkLikeModel(t, fmt.Sprintf("operation %#x in %+v", op, s.S), with, tape, s)
			seen[[2]int{op, trap.Kind}]++
		}
	}
	for _, op := range ops {
		for kind := api.NoTrap; kind <= api.Stack; kind++ {
			if possible(op, kind) && seen[[2]int{op, kind}] < 3 {
				t.Errorf("operation %#x ended only %d times with trap %d", op, seen[[2]int{op, kind}], kind)
			}
		}
	}
}

func TestP4_StepOfAnyBytesIsThatOfTheModel(t *testing.T) {
	r := random(2)
	illegal := 0
	for range 100 {
		i, tape := r.image(), r.tape()
		for range 100 {
			s := r.snap()
			code := make([]byte, 8)
			for k := range code {
				code[k] = byte(r.next())
			}
			if checkLikeModel(t, fmt.Sprintf("bytes %x", code), put(i, s.S, string(code)), tape, s).Kind == api.Illegal {
				illegal++
			}
		}
	}
	if illegal < 1000 {
		t.Errorf("only %d runs ended with trap Illegal", illegal)
	}
}

func TestP4_9_RunIsThatOfTheModel(t *testing.T) {
	r := random(3)
	long := 0
	for range 500 {
		i, tape, s := r.image(), r.tape(), r.snap()
		got := checkRun(t, i, tape, s, r.below(60)-3)
		if got.S.Steps-s.S.Steps > 5 {
			long++
		}
	}
	if long < 10 {
		t.Errorf("only %d runs had more than 5 steps", long)
	}
}
