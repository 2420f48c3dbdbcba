package ir

import (
	"cmp"
	"slices"

	"vellum/api"
)

const (
	valueCount = 1 << 16 // the numbers below are those of values
	portCount  = 1 << 8  // the numbers below, except 0, are those of ports
)

// hasArguments reports whether the numbers of arguments are in range, and those of Entry and Handler are 0.
func hasArguments(p api.IrProg) bool {
	hasNone := func(f int) bool { return isIndex(f, len(p.Args)) && p.Args[f] == 0 }
	isNoNumber := func(n int) bool { return n < 0 || n > api.MaxArgs }
	return len(p.Args) == len(p.Funcs) && !slices.ContainsFunc(p.Args, isNoNumber) &&
		hasNone(p.Entry) && (p.Handler == -1 || hasNone(p.Handler))
}

// hasPlaces reports whether the banks are complete, and the objects lie where they can, apart from each other.
func hasPlaces(p api.IrProg) bool {
	for _, bank := range p.Banks {
		if len(bank) != api.BankSize {
			return false
		}
	}
	sorted := slices.SortedFunc(slices.Values(p.Data), func(a, b api.Object) int {
		return cmp.Or(cmp.Compare(a.Bank, b.Bank), cmp.Compare(a.Addr, b.Addr))
	})
	for k, o := range sorted {
		if !fitsMemory(o, len(p.Banks)) || k > 0 && overlap(sorted[k-1], o) {
			return false
		}
	}
	return true
}

// fitsMemory reports whether an object is not empty, and lies in RAM or in one of some banks.
func fitsMemory(o api.Object, banks int) bool {
	first, end := 0, api.BankSize
	if o.Bank == api.RamBank {
		first, end = api.Ram, api.RamEnd
	} else if !isIndex(o.Bank, banks) {
		return false
	}
	return o.Size > 0 && int(o.Addr) >= first && int(o.Addr)+int(o.Size) <= end
}

// overlap reports whether an object has a byte in common with one that does not begin before it.
func overlap(a, b api.Object) bool {
	return a.Bank == b.Bank && int(a.Addr)+int(a.Size) > int(b.Addr)
}

// hasFunctions reports whether all functions with blocks are valid, in a program that is valid otherwise.
func hasFunctions(p api.IrProg) bool {
	greatest := 0
	for _, f := range p.Funcs {
		greatest = max(greatest, Count(f))
	}
	numbers := make([]int32, min(greatest, valueCount))
	definitions := 0
	for n, f := range p.Funcs {
		c := checker{program: &p, function: n, blocks: f.Blocks, numbers: numbers, before: definitions}
		if len(f.Blocks) > 0 && !c.isValid() {
			return false
		}
		definitions += len(c.homes)
	}
	return true
}
