package ir

import (
	"strconv"
	"strings"

	"vellum/api"
)

// unknown is the text of operations and terminators that do not exist.
const unknown = "?"

// Print returns a function as text.
func Print(f api.IrFunc) string {
	if len(f.Blocks) == 0 {
		return "extern\n"
	}
	var text strings.Builder
	names := operationNames()
	for b, block := range f.Blocks {
		text.WriteString(target(b, block.Params) + ":\n")
		for k := range block.Ops {
			text.WriteString("  " + definition(block.Ops[k].Res) + operation(names, &block.Ops[k]) + "\n")
		}
		text.WriteString("  " + terminator(&block.Term) + "\n")
	}
	return text.String()
}

// operationNames returns the names of the operations by their codes.
func operationNames() map[int]string {
	return map[int]string{
		api.IConst: "const", api.IObj: "obj", api.INeg: "neg", api.INot: "not",
		api.IAdd: "add", api.ISub: "sub", api.IMul: "mul", api.IDiv: "div",
		api.IAnd: "and", api.IOr: "or", api.IXor: "xor",
		api.IShl: "shl", api.IShr: "shr", api.ISar: "sar",
		api.IEq: "eq", api.ILtu: "ltu", api.ILts: "lts",
		api.ILoad: "load", api.ILoadb: "loadb", api.IStore: "store", api.IStoreb: "storeb",
		api.IRom: "rom", api.IRomb: "romb",
		api.IIn: "in", api.IOut: "out", api.ICall: "call", api.IPoll: "poll",
	}
}

// definition returns what the line of an operation begins with, if it defines a value.
func definition(res int) string {
	if res == -1 {
		return ""
	}
	return value(res) + " = "
}

// operation returns an operation as text, without its result.
func operation(names map[int]string, o *api.IrOp) string {
	name, listed := names[o.Code]
	if !listed {
		return unknown
	}
	number := strconv.Itoa(int(o.N))
	switch o.Code {
	case api.IPoll:
		return name
	case api.IConst, api.IIn:
		return name + " " + number
	case api.IObj:
		return name + " " + strconv.Itoa(o.A) + " + " + number
	case api.INeg, api.INot, api.ILoad, api.ILoadb:
		return name + " " + value(o.A)
	case api.IRom, api.IRomb, api.IOut:
		return name + " " + number + ", " + value(o.A)
	case api.ICall:
		return name + " f" + strconv.Itoa(o.A) + inParentheses(o.Args)
	}
	return name + " " + value(o.A) + ", " + value(o.B)
}

// terminator returns a terminator as text.
func terminator(t *api.Term) string {
	switch t.Kind {
	case api.TJump:
		return "jump " + edges(t.To)
	case api.TBranch:
		return "branch " + value(t.A) + ", " + edges(t.To)
	case api.TSwitch:
		return "switch " + value(t.A) + ", " + edges(t.To)
	case api.TReturn:
		if t.A == -1 {
			return "return"
		}
		return "return " + value(t.A)
	case api.THalt:
		return "halt"
	}
	return unknown
}

// edges returns a list of edges as text.
func edges(to []api.Edge) string {
	return joined(to, func(e api.Edge) string { return target(e.Block, e.Args) })
}

// target returns the number of a block with its parameters, or with arguments for them, as text.
func target(block int, list []int) string {
	return "b" + strconv.Itoa(block) + inParentheses(list)
}

// inParentheses returns a list of values as text.
func inParentheses(list []int) string {
	return "(" + joined(list, value) + ")"
}

// joined returns the texts of the elements of a list, which are separated by commas.
func joined[E any](list []E, text func(E) string) string {
	var texts []string
	for _, element := range list {
		texts = append(texts, text(element))
	}
	return strings.Join(texts, ", ")
}

// value returns a value as text.
func value(v int) string {
	return "v" + strconv.Itoa(v)
}
