package image

import (
	"slices"

	"vellum/api"
)

// Offset returns the bank and the offset of a place of an image.
func Offset(i api.Image, p api.Place) (bank, off int, ok bool) {
	if _, _, isCode := partOf(p); !isCode || p.Bank >= len(i.Banks) {
		return 0, 0, false
	}
	off = int(p.Addr) % api.BankSize
	if off >= len(i.Banks[p.Bank]) {
		return 0, 0, false
	}
	return p.Bank, off, true
}

// partOf returns the first address and the end of the part in which a code address lies, and whether the place is one.
func partOf(p api.Place) (first, end int, ok bool) {
	switch {
	case p.Bank == 0 && p.Addr < api.Window:
		return 0, api.Window, true
	case isBank(p.Bank, api.MaxBanks) && p.Addr >= api.Window && p.Addr < api.WindowEnd:
		return api.Window, api.WindowEnd, true
	}
	return 0, 0, false
}

// Code returns at most n bytes of the code at a place, as far as they lie in its bank.
func Code(i api.Image, p api.Place, n int) string {
	bank, off, ok := Offset(i, p)
	if !ok || n < 1 {
		return ""
	}
	code := i.Banks[bank][off:]
	return code[:min(n, len(code))]
}

// Next returns the place n bytes behind a place of the same bank.
func Next(p api.Place, n int) (api.Place, bool) {
	first, end, ok := partOf(p)
	addr := int(p.Addr)
	// The bounds are moved, and not the address, so that no n wraps around.
	if !ok || n < first-addr || n >= end-addr {
		return api.Place{}, false
	}
	return api.Place{Bank: p.Bank, Addr: uint16(addr + n)}, true
}

// Write returns an image in which the bytes at a place are replaced.
func Write(i api.Image, p api.Place, s string) (api.Image, api.Errno) {
	bank, off, ok := Offset(i, p)
	if !ok || len(i.Banks[bank])-off < len(s) {
		return api.Image{}, api.ErrPlace
	}
	old := i.Banks[bank]
	i.Banks = slices.Clone(i.Banks)
	i.Banks[bank] = old[:off] + s + old[off+len(s):]
	i.Data = slices.Clone(i.Data)
	i.Relocs = slices.Clone(i.Relocs)
	return i, api.OK
}
