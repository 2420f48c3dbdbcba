package image

import (
	"strings"

	"vellum/api"
	"vellum/word"
)

// A file consists of the letters, the words of the header, the objects, the relocations, the banks, and the sum.
const (
	letters    = "VELM"
	ramByte    = 255 // in place of a bank
	objectSize = 5
	relocSize  = 3
	sumSize    = 2
)

// The positions of the words of the header.
const (
	banksAt    = 4
	entryAt    = 6
	vectorAt   = 8
	objectsAt  = 10
	relocsAt   = 12
	headerSize = 14
)

// header is what a file tells before its lists.
type header struct {
	banks           int
	entry, vector   uint16
	objects, relocs int
}

// firstReloc returns the position of the relocations.
func (h header) firstReloc() int {
	return headerSize + h.objects*objectSize
}

// firstBank returns the position of the banks.
func (h header) firstBank() int {
	return h.firstReloc() + h.relocs*relocSize
}

// sum returns the position of the sum.
func (h header) sum() int {
	return h.firstBank() + h.banks*api.BankSize
}

// Bytes returns the file of a valid image.
func Bytes(i api.Image) (string, api.Errno) {
	if e := Check(i); e != api.OK {
		return "", e
	}
	var file strings.Builder
	file.WriteString(letters)
	for _, n := range []int{len(i.Banks), int(i.Entry), int(i.Vector), len(i.Data), len(i.Relocs)} {
		file.WriteString(word.Put(uint16(n)))
	}
	for _, o := range i.Data {
		file.WriteByte(byteOfBank(o.Bank))
		file.WriteString(word.Put(o.Addr) + word.Put(o.Size))
	}
	for _, r := range i.Relocs {
		file.WriteByte(byte(r.Bank))
		file.WriteString(word.Put(r.Off))
	}
	for _, bank := range i.Banks {
		file.WriteString(bank)
	}
	file.WriteString(word.Put(word.Sum(file.String())))
	return file.String(), api.OK
}

// byteOfBank returns the byte that stands for the bank, or the RAM, of an object.
func byteOfBank(bank int) byte {
	if bank == api.RamBank {
		return ramByte
	}
	return byte(bank)
}

// bankOfByte returns the bank, or the RAM, of an object for which a byte stands.
func bankOfByte(b byte) int {
	if b == ramByte {
		return api.RamBank
	}
	return int(b)
}

// failure is the error of a file with its offset, as it passes through a panic.
type failure struct {
	off    int
	number api.Errno
}

// demand gives up a file in which a condition does not hold.
func demand(holds bool, off int, number api.Errno) {
	if !holds {
		panic(failure{off, number})
	}
}

// Read returns the image of a file, or the offset and the number of its first error.
func Read(s string) (i api.Image, off int, e api.Errno) {
	defer func() {
		if f, failed := recover().(failure); failed {
			i, off, e = api.Image{}, f.off, f.number
		}
	}()
	h := readHeader(s)
	demandBody(s, h)
	i = readImage(s, h)
	demandPlaces(i, h)
	return i, 0, api.OK
}

// readHeader returns the header of a file, which must be correct.
func readHeader(s string) header {
	demand(len(s) >= len(letters), len(s), api.ErrShort)
	demand(strings.HasPrefix(s, letters), 0, api.ErrForm)
	demand(len(s) >= headerSize, len(s), api.ErrShort)
	h := header{
		banks:   int(word.Get(s[banksAt:])),
		entry:   word.Get(s[entryAt:]),
		vector:  word.Get(s[vectorAt:]),
		objects: int(word.Get(s[objectsAt:])),
		relocs:  int(word.Get(s[relocsAt:])),
	}
	demand(isBankCount(h.banks), banksAt, api.ErrImage)
	demand(h.objects <= api.MaxObjects, objectsAt, api.ErrMany)
	demand(h.relocs <= api.MaxRelocs, relocsAt, api.ErrMany)
	demand(isInBankZero(h.entry), entryAt, api.ErrPlace)
	demand(isInBankZero(h.vector), vectorAt, api.ErrPlace)
	return h
}

// demandBody demands the length and the sum that belong to a header.
func demandBody(s string, h header) {
	end := h.sum() + sumSize
	demand(len(s) >= end, len(s), api.ErrShort)
	demand(len(s) <= end, end, api.ErrForm)
	demand(word.Get(s[h.sum():]) == word.Sum(s[:h.sum()]), h.sum(), api.ErrSum)
}

// readImage returns the image of a file that has the length that its header tells.
func readImage(s string, h header) api.Image {
	i := api.Image{Entry: h.entry, Vector: h.vector}
	for at := headerSize; at < h.firstReloc(); at += objectSize {
		i.Data = append(i.Data, api.Object{Bank: bankOfByte(s[at]), Addr: word.Get(s[at+1:]), Size: word.Get(s[at+3:])})
	}
	for at := h.firstReloc(); at < h.firstBank(); at += relocSize {
		i.Relocs = append(i.Relocs, api.Reloc{Bank: int(s[at]), Off: word.Get(s[at+1:])})
	}
	for at := h.firstBank(); at < h.sum(); at += api.BankSize {
		i.Banks = append(i.Banks, s[at:at+api.BankSize])
	}
	return i
}

// demandPlaces demands that the objects and the relocations of an image are correct.
func demandPlaces(i api.Image, h header) {
	n, found := firstWrongObject(i)
	demand(!found, headerSize+n*objectSize, api.ErrPlace)
	n, found = firstWrongReloc(i)
	demand(!found, h.firstReloc()+n*relocSize, api.ErrPlace)
}
