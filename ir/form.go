package ir

import "vellum/api"

// fields tells what the fields of an operation are. Those that an operation does not have are 0 or empty; Res is -1.
type fields int

const (
	definesRes    fields = 1 << iota // Res is a value
	mayDefineRes                     // Res is a value or -1
	usesA                            // A is a value
	usesB                            // B is a value
	namesObject                      // A is the number of an object
	namesFunction                    // A is the number of a function, Args are the values of its arguments
	hasNumber                        // N is any number
	hasPort                          // N is the number of a port
)

// fieldsOf returns the fields of the operations with a code, and whether there are such operations.
func fieldsOf(code int) (f fields, listed bool) {
	switch code {
	case api.IConst:
		return definesRes | hasNumber, true
	case api.IObj:
		return definesRes | namesObject | hasNumber, true
	case api.INeg, api.INot, api.ILoad, api.ILoadb:
		return definesRes | usesA, true
	case api.IAdd, api.ISub, api.IMul, api.IDiv, api.IAnd, api.IOr, api.IXor, api.IShl, api.IShr, api.ISar,
		api.IEq, api.ILtu, api.ILts:
		return definesRes | usesA | usesB, true
	case api.IStore, api.IStoreb:
		return usesA | usesB, true
	case api.IRom, api.IRomb:
		return definesRes | usesA | hasNumber, true
	case api.IIn:
		return definesRes | hasPort, true
	case api.IOut:
		return usesA | hasPort, true
	case api.ICall:
		return mayDefineRes | namesFunction, true
	case api.IPoll:
		return 0, true
	}
	return 0, false
}

// has reports whether an operation has one of some fields.
func (f fields) has(some fields) bool {
	return f&some != 0
}

// operationFits reports whether an operation is one that a program may contain, but for its values.
func operationFits(p *api.IrProg, o *api.IrOp) bool {
	f, listed := fieldsOf(o.Code)
	return listed && f.fitResult(o.Res) && f.fitReference(p, o) && (f.has(usesB) || o.B == 0) && f.fitNumber(o.N)
}

// fitResult reports whether an operation with these fields has a result, or none, as Res says.
func (f fields) fitResult(res int) bool {
	if res == -1 {
		return !f.has(definesRes)
	}
	return f.has(definesRes | mayDefineRes)
}

// fitReference reports whether what A names exists, and gets as many arguments as it takes.
func (f fields) fitReference(p *api.IrProg, o *api.IrOp) bool {
	if f.has(namesFunction) {
		return isIndex(o.A, len(p.Funcs)) && len(o.Args) == p.Args[o.A]
	}
	if f.has(namesObject) && !isIndex(o.A, len(p.Data)) {
		return false
	}
	return len(o.Args) == 0 && (f.has(namesObject|usesA) || o.A == 0)
}

// fitNumber reports whether N is what an operation with these fields has there.
func (f fields) fitNumber(n uint16) bool {
	if f.has(hasPort) {
		return n > 0 && n < portCount
	}
	return f.has(hasNumber) || n == 0
}

// terminatorFits reports whether a terminator is one that a program may contain, but for its value, and for where its
// edges lead.
func terminatorFits(t *api.Term) bool {
	switch t.Kind {
	case api.TJump:
		return t.A == 0 && len(t.To) == 1
	case api.TBranch:
		return len(t.To) == 2
	case api.TSwitch:
		return len(t.To) > 0
	case api.TReturn:
		return len(t.To) == 0
	case api.THalt:
		return t.A == 0 && len(t.To) == 0
	}
	return false
}

// hasResult reports whether an operation that a program may contain defines a value.
func hasResult(o *api.IrOp) bool {
	return o.Res != -1
}

// usesValue reports whether A of a terminator is a value.
func usesValue(t *api.Term) bool {
	return t.Kind == api.TBranch || t.Kind == api.TSwitch || t.Kind == api.TReturn && t.A != -1
}
