package image_test

import (
	"slices"
	"strings"

	"vellum/api"
	"vellum/word"
)

const ram = api.RamBank

var zeroBank = strings.Repeat("\x00", api.BankSize)

// bankWith returns a bank of zeros but for the words at some offsets.
func bankWith(words map[int]uint16) string {
	b := []byte(zeroBank)
	for off, w := range words {
		b[off], b[off+1] = byte(w), byte(w>>8)
	}
	return string(b)
}

// small is the image of the chapter's examples.
func small() api.Image {
	return api.Image{
		Banks:  []string{bankWith(map[int]uint16{2: 0x4002})},
		Entry:  16,
		Data:   []api.Object{{Bank: ram, Addr: 0x4000, Size: 4}},
		Relocs: []api.Reloc{{Bank: 0, Off: 2}},
	}
}

// large has several elements of each kind, also at the ends of what is allowed.
func large() api.Image {
	numbered := make([]byte, api.BankSize)
	for k := range numbered {
		numbered[k] = byte(k*7 + k/256)
	}
	return api.Image{
		Banks: []string{
			bankWith(map[int]uint16{0: 0x4000, 2: 0x5fff, 0x102: 0x4205, 4094: 0x4003}),
			string(numbered),
			bankWith(map[int]uint16{1: 0x4204, 3: 0x5ffe, 0x0fff - 7: 0x4001}),
		},
		Entry:  4095,
		Vector: 0x0123,
		Data: []api.Object{
			obj(ram, 0x4000, 4), obj(ram, 0x4004, 1), obj(ram, 0x4204, 2), obj(ram, 0x5ffe, 2),
			obj(0, 0x0000, 1), obj(0, 0x0001, 0x0ff), obj(0, 0x0fff, 1), obj(1, 0, 4096), obj(2, 0x0800, 0x0800),
		},
		Relocs: []api.Reloc{rel(0, 0), rel(0, 2), rel(0, 0x102), rel(0, 4094), rel(2, 1), rel(2, 3), rel(2, 0x0fff-7)},
	}
}

// full has as much of everything as is allowed.
func full() api.Image {
	i := api.Image{Entry: 4095, Vector: 4095}
	for range api.MaxBanks {
		i.Banks = append(i.Banks, strings.Repeat("\x00\x40", api.BankSize/2))
	}
	for k := range api.MaxObjects {
		i.Data = append(i.Data, api.Object{Bank: ram, Addr: uint16(0x4000 + 16*k), Size: 16})
	}
	for k := range api.MaxRelocs {
		i.Relocs = append(i.Relocs, api.Reloc{Bank: k / 2048, Off: uint16(k % 2048 * 2)})
	}
	return i
}

func obj(bank int, addr, size uint16) api.Object {
	return api.Object{Bank: bank, Addr: addr, Size: size}
}

func rel(bank int, off uint16) api.Reloc { return api.Reloc{Bank: bank, Off: off} }

func place(bank int, addr uint16) api.Place { return api.Place{Bank: bank, Addr: addr} }

func changed(i api.Image, changes ...func(*api.Image)) api.Image {
	for _, change := range changes {
		change(&i)
	}
	return i
}

// modelContains reports whether an object contains a byte.
func modelContains(o api.Object, bank, a int) bool {
	return o.Bank == bank && int(o.Addr) <= a && a < int(o.Addr)+int(o.Size)
}

// modelWrongObject checks the conditions of P3.1 for object n, byte by byte.
func modelWrongObject(i api.Image, n int) bool {
	o := i.Data[n]
	if o.Size == 0 || o.Bank != ram && (o.Bank < 0 || o.Bank >= len(i.Banks)) {
		return true
	}
	for a := int(o.Addr); a < int(o.Addr)+int(o.Size); a++ {
		if o.Bank == ram && (a < 0x4000 || a > 0x5fff) || o.Bank != ram && a > 4095 {
			return true
		}
		if n > 0 && modelContains(i.Data[n-1], o.Bank, a) {
			return true
		}
	}
	if n == 0 {
		return false
	}
	p := i.Data[n-1]
	return o.Bank < p.Bank || o.Bank == p.Bank && o.Addr <= p.Addr
}

// modelWrongReloc checks the conditions of P3.1 for relocation n.
func modelWrongReloc(i api.Image, n int) bool {
	r := i.Relocs[n]
	if r.Bank < 0 || r.Bank >= len(i.Banks) || r.Off > 4094 {
		return true
	}
	if n > 0 {
		p := i.Relocs[n-1]
		if r.Bank < p.Bank || r.Bank == p.Bank && int(r.Off)-int(p.Off) < 2 {
			return true
		}
	}
	bank := i.Banks[r.Bank]
	target := int(bank[r.Off]) + 256*int(bank[r.Off+1])
	return !slices.ContainsFunc(i.Data, func(o api.Object) bool { return modelContains(o, ram, target) })
}

// modelFirst returns the first of n elements that is wrong, or -1.
func modelFirst(i api.Image, n int, wrong func(api.Image, int) bool) int {
	for k := range n {
		if wrong(i, k) {
			return k
		}
	}
	return -1
}

func modelCheck(i api.Image) api.Errno {
	if len(i.Banks) == 0 || len(i.Banks) > 64 {
		return api.ErrImage
	}
	for _, b := range i.Banks {
		if len(b) != 4096 {
			return api.ErrImage
		}
	}
	if len(i.Data) > 512 || len(i.Relocs) > 20000 {
		return api.ErrMany
	}
	if i.Entry > 4095 || i.Vector > 4095 {
		return api.ErrPlace
	}
	if modelFirst(i, len(i.Data), modelWrongObject) >= 0 || modelFirst(i, len(i.Relocs), modelWrongReloc) >= 0 {
		return api.ErrPlace
	}
	return api.OK
}

// modelBody returns the bytes before the sum in the file of an image, which may be wrong.
func modelBody(i api.Image) string {
	s := []byte("VELM")
	put := func(n int) { s = append(s, byte(n%256), byte(n/256)) }
	put(len(i.Banks))
	put(int(i.Entry))
	put(int(i.Vector))
	put(len(i.Data))
	put(len(i.Relocs))
	for _, o := range i.Data {
		s = append(s, byte((o.Bank+256)%256))
		put(int(o.Addr))
		put(int(o.Size))
	}
	for _, r := range i.Relocs {
		s = append(s, byte(r.Bank))
		put(int(r.Off))
	}
	for _, b := range i.Banks {
		s = append(s, b...)
	}
	return string(s)
}

// withSum appends the sum, least significant byte first.
func withSum(body string) string {
	sum := word.Sum(body)
	return body + string([]byte{byte(sum), byte(sum >> 8)})
}

func modelFile(i api.Image) string { return withSum(modelBody(i)) }

func wordAt(s string, off int) int { return int(s[off]) + 256*int(s[off+1]) }

// modelReadError returns the offset and the number of the first error of P3.3.
func modelReadError(s string) (int, api.Errno) {
	switch {
	case len(s) < 4:
		return len(s), api.ErrShort
	case s[:4] != "VELM":
		return 0, api.ErrForm
	case len(s) < 14:
		return len(s), api.ErrShort
	}
	banks, objects, relocs := wordAt(s, 4), wordAt(s, 10), wordAt(s, 12)
	sumAt := 14 + 5*objects + 3*relocs + 4096*banks
	switch {
	case banks < 1 || banks > 64:
		return 4, api.ErrImage
	case objects > 512:
		return 10, api.ErrMany
	case relocs > 20000:
		return 12, api.ErrMany
	case wordAt(s, 6) > 4095:
		return 6, api.ErrPlace
	case wordAt(s, 8) > 4095:
		return 8, api.ErrPlace
	case len(s) < sumAt+2:
		return len(s), api.ErrShort
	case len(s) > sumAt+2:
		return sumAt + 2, api.ErrForm
	case wordAt(s, sumAt) != int(word.Sum(s[:sumAt])):
		return sumAt, api.ErrSum
	}
	i := modelImage(s)
	if n := modelFirst(i, objects, modelWrongObject); n >= 0 {
		return 14 + 5*n, api.ErrPlace
	}
	if n := modelFirst(i, relocs, modelWrongReloc); n >= 0 {
		return 14 + 5*objects + 3*n, api.ErrPlace
	}
	return 0, api.OK
}

// modelImage returns the image of a file whose length is right.
func modelImage(s string) api.Image {
	i := api.Image{Entry: uint16(wordAt(s, 6)), Vector: uint16(wordAt(s, 8))}
	at := 14
	for range wordAt(s, 10) {
		bank := int(s[at])
		if bank == 255 {
			bank = ram
		}
		i.Data = append(i.Data, api.Object{Bank: bank, Addr: uint16(wordAt(s, at+1)), Size: uint16(wordAt(s, at+3))})
		at += 5
	}
	for range wordAt(s, 12) {
		i.Relocs = append(i.Relocs, api.Reloc{Bank: int(s[at]), Off: uint16(wordAt(s, at+1))})
		at += 3
	}
	for range wordAt(s, 4) {
		i.Banks = append(i.Banks, s[at:at+4096])
		at += 4096
	}
	return i
}

// equal compares two images without the package that is tested; nil slices are like empty ones.
func equal(a, b api.Image) bool {
	return a.Entry == b.Entry && a.Vector == b.Vector && slices.Equal(a.Banks, b.Banks) &&
		slices.Equal(a.Data, b.Data) && slices.Equal(a.Relocs, b.Relocs)
}

var (
	setEntry  = func(a uint16) func(*api.Image) { return func(i *api.Image) { i.Entry = a } }
	setVector = func(a uint16) func(*api.Image) { return func(i *api.Image) { i.Vector = a } }
	setBanks  = func(banks ...string) func(*api.Image) { return func(i *api.Image) { i.Banks = banks } }
	setData   = func(data ...api.Object) func(*api.Image) { return func(i *api.Image) { i.Data = data } }
	setRelocs = func(relocs ...api.Reloc) func(*api.Image) { return func(i *api.Image) { i.Relocs = relocs } }
	noRelocs  = setRelocs()
)
