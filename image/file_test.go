package image_test

import (
	"slices"
	"strings"
	"testing"

	"vellum/api"
	"vellum/image"
	"vellum/word"
)

// checkRead compares Read with the model.
func checkRead(t *testing.T, what, s string) {
	t.Helper()
	i, off, e := image.Read(s)
	wantOff, wantE := modelReadError(s)
	if off != wantOff || e != wantE {
		t.Errorf("Read of %s: %d, %v, want %d, %v", what, off, e, wantOff, wantE)
		return
	}
	want := api.Image{}
	if wantE == api.OK {
		want = modelImage(s)
	}
	if !equal(i, want) {
		t.Errorf("Read of %s: another image", what)
	}
}

func TestP3_2_Bytes(t *testing.T) {
	s, e := image.Bytes(small())
	if e != api.OK || len(s) != 4120 {
		t.Fatalf("example: %d bytes, %v", len(s), e)
	}
	want := "VELM\x01\x00\x10\x00\x00\x00\x01\x00\x01\x00" + "\xff\x00\x40\x04\x00" + "\x00\x02\x00" + "\x00\x00\x02\x40" + zeroBank[4:]
	if s[:4118] != want || s[4118:] != word.Put(word.Sum(want)) {
		t.Errorf("example: %q .. %q", s[:30], s[4110:])
	}
	several := api.Image{
		Banks:  []string{zeroBank, bankWith(map[int]uint16{0x102: 0x4304})},
		Entry:  0x0a0b,
		Vector: 0x0c0d,
		Data:   []api.Object{obj(ram, 0x4203, 0x0405), obj(1, 0x0708, 0x0102)},
		Relocs: []api.Reloc{rel(1, 0x0102)},
	}
	want = "VELM\x02\x00\x0b\x0a\x0d\x0c\x02\x00\x01\x00" + "\xff\x03\x42\x05\x04" + "\x01\x08\x07\x02\x01" + "\x01\x02\x01" + several.Banks[0] + several.Banks[1]
	if s, e := image.Bytes(several); e != api.OK || s != want+word.Put(word.Sum(want)) {
		t.Errorf("several: %v, %q", e, s[:30])
	}
	for _, i := range []api.Image{small(), large(), full(), {Banks: []string{zeroBank}}, {Banks: slices.Repeat([]string{zeroBank}, 64)}} {
		if s, e := image.Bytes(i); e != api.OK || s != modelFile(i) {
			t.Errorf("another file, %v", e)
		}
	}
}

func TestP3_2_BytesOfWrongImages(t *testing.T) {
	for _, i := range []api.Image{
		{},
		{Banks: []string{zeroBank, ""}},
		{Banks: slices.Repeat([]string{zeroBank}, 65)},
		changed(small(), setData(make([]api.Object, 513)...)),
		changed(small(), setRelocs(make([]api.Reloc, 20001)...)),
		changed(small(), setEntry(4096)),
		changed(small(), setVector(4096)),
		changed(small(), setData(api.Object{Bank: 255, Addr: 0x4000, Size: 4})),
		changed(small(), setRelocs(api.Reloc{Bank: 256, Off: 2})),
		changed(small(), setRelocs(api.Reloc{Off: 3})),
	} {
		s, e := image.Bytes(i)
		if want := modelCheck(i); s != "" || e != want || e == api.OK {
			t.Errorf("%d bytes, %v, want %v", len(s), e, want)
		}
	}
}

func TestP3_3_Read(t *testing.T) {
	s := modelFile(small())
	for _, x := range []struct {
		what, s string
		off     int
		want    api.Errno
	}{
		{"nothing", "", 0, api.ErrShort},
		{"a wrong letter", "X", 1, api.ErrShort},
		{"three bytes", "VEL", 3, api.ErrShort},
		{"wrong letters", "VELm", 0, api.ErrForm},
		{"wrong letters and few bytes", "WELM\x00", 0, api.ErrForm},
		{"letters only", "VELM", 4, api.ErrShort},
		{"part of the header", s[:13], 13, api.ErrShort},
		{"header", s[:14], 14, api.ErrShort},
		{"header of wrong numbers", "VELM\x00\x00\xff\xff\xff\xff\xff\xff\xff\xff", 4, api.ErrImage},
		{"65 banks", "VELM\x41\x00\xff\xff\xff\xff\xff\xff\xff\xff", 4, api.ErrImage},
		{"256 banks", "VELM\x00\x01\x00\x00\x00\x00\x00\x00\x00\x00", 4, api.ErrImage},
		{"513 objects", "VELM\x40\x00\xff\xff\xff\xff\x01\x02\xff\xff", 10, api.ErrMany},
		{"20001 relocations", "VELM\x40\x00\xff\xff\xff\xff\x00\x02\x21\x4e", 12, api.ErrMany},
		{"entry", "VELM\x40\x00\x00\x10\xff\xff\x00\x02\x20\x4e", 6, api.ErrPlace},
		{"vector", "VELM\x40\x00\xff\x0f\x00\x10\x00\x02\x20\x4e", 8, api.ErrPlace},
		{"numbers at their limits", "VELM\x40\x00\xff\x0f\xff\x0f\x00\x02\x20\x4e", 14, api.ErrShort},
		{"100 bytes", s[:100], 100, api.ErrShort},
		{"no sum", s[:4118], 4118, api.ErrShort},
		{"half a sum", s[:4119], 4119, api.ErrShort},
		{"a byte more", s + "x", 4120, api.ErrForm},
		{"many more", s + s, 4120, api.ErrForm},
		{"a byte more and a wrong sum", s[:4119] + "xx", 4120, api.ErrForm},
		{"a wrong sum", s[:4118] + string([]byte{s[4118], s[4119] ^ 1}), 4118, api.ErrSum},
		{"a sum in the wrong order", s[:4118] + s[4119:] + s[4118:4119], 4118, api.ErrSum},
		{"a wrong sum and a wrong object", s[:14] + "\xfe" + s[15:], 4118, api.ErrSum},
	} {
		i, off, e := image.Read(x.s)
		if off != x.off || e != x.want || !equal(i, api.Image{}) {
			t.Errorf("%s: %d, %v, want %d, %v", x.what, off, e, x.off, x.want)
		}
		checkRead(t, x.what, x.s)
	}
	for what, i := range map[string]api.Image{"example": small(), "large": large(), "full": full()} {
		got, off, e := image.Read(modelFile(i))
		if off != 0 || e != api.OK || !equal(got, i) {
			t.Errorf("%s: %d, %v", what, off, e)
		}
	}
}

func TestP3_3_ReadOfWrongPlaces(t *testing.T) {
	for what, x := range map[string]struct {
		change func(*api.Image)
		off    int
	}{
		"first object":             {func(i *api.Image) { i.Data[0].Size = 0 }, 14},
		"third object":             {func(i *api.Image) { i.Data[2].Addr = 0x4004 }, 14 + 5*2},
		"last object":              {func(i *api.Image) { i.Data[8].Size++ }, 14 + 5*8},
		"object in bank 3":         {func(i *api.Image) { i.Data[8].Bank = 3 }, 14 + 5*8},
		"object in bank 254":       {func(i *api.Image) { i.Data[8].Bank = 254 }, 14 + 5*8},
		"two objects":              {func(i *api.Image) { i.Data[5].Size, i.Data[3].Size = 0, 3 }, 14 + 5*3},
		"first relocation":         {func(i *api.Image) { i.Relocs[0].Off = 1 }, 14 + 5*9},
		"second relocation":        {func(i *api.Image) { i.Relocs[1].Off = 1 }, 14 + 5*9 + 3},
		"last relocation":          {func(i *api.Image) { i.Relocs[6].Bank = 3 }, 14 + 5*9 + 3*6},
		"relocation in bank 255":   {func(i *api.Image) { i.Relocs[6].Bank = 255 }, 14 + 5*9 + 3*6},
		"relocation in RAM":        {func(i *api.Image) { i.Relocs[0].Bank = ram }, 14 + 5*9},
		"relocation at 4095":       {func(i *api.Image) { i.Relocs[3].Off = 4095 }, 14 + 5*9 + 3*3},
		"word that is no address":  {func(i *api.Image) { i.Data[3].Size = 1 }, 14 + 5*9 + 3},
		"relocation before object": {func(i *api.Image) { i.Relocs[0].Off, i.Data[8].Size = 1, 0 }, 14 + 5*8},
	} {
		s := modelFile(changed(large(), x.change))
		i, off, e := image.Read(s)
		if off != x.off || e != api.ErrPlace || !equal(i, api.Image{}) {
			t.Errorf("%s: %d, %v, want %d", what, off, e, x.off)
		}
		checkRead(t, what, s)
	}
}

// headerOf returns a header with numbers in the order of the chapter.
func headerOf(numbers ...int) string {
	s := "VELM"
	for _, n := range numbers {
		s += string([]byte{byte(n), byte(n >> 8)})
	}
	return s
}

func TestP3_3_ReadAgainstModel(t *testing.T) {
	for _, banks := range []int{0, 1, 2, 64, 65, 0x100, 0xffff} {
		for _, objects := range []int{0, 1, 512, 513, 0xffff} {
			for _, relocs := range []int{0, 1, 20000, 20001, 0xffff} {
				for _, entry := range []int{0, 4095, 4096, 0xffff} {
					for _, vector := range []int{0, 4095, 4096, 0x8000} {
						checkRead(t, "a header", headerOf(banks, entry, vector, objects, relocs))
					}
				}
				rest := strings.Repeat("\xff\x00\x40", objects) + strings.Repeat("\x40", 2*objects) + strings.Repeat("\x00", 3*relocs)
				if len(rest) > 1<<17 || banks > 2 {
					continue
				}
				s := withSum(headerOf(banks, 0, 0, objects, relocs) + rest + strings.Repeat(zeroBank, banks))
				for _, x := range []string{s, s[:len(s)-1], s[:len(s)-2], s + "\x00", s[:len(s)-1] + "\x55"} {
					checkRead(t, "a file", x)
				}
			}
		}
	}
}

// TestP3_3_ReadOfChangedBytes changes each byte before the banks, and corrects the sum.
func TestP3_3_ReadOfChangedBytes(t *testing.T) {
	body := modelBody(large())
	for at := range len(body) - 3*api.BankSize {
		for _, b := range []byte{0, 1, 2, 3, 4, 5, 0x0f, 0x10, 0x3f, 0x40, 0x5f, 0x60, 0x7f, 0x80, 0xfe, 0xff} {
			checkRead(t, "a changed file", withSum(body[:at]+string([]byte{b})+body[at+1:]))
		}
	}
}

func TestP3_7_ReadOfBytes(t *testing.T) {
	for what, i := range map[string]api.Image{"example": small(), "large": large(), "full": full(), "least": {Banks: []string{zeroBank}}} {
		s, e := image.Bytes(i)
		if e != api.OK {
			t.Fatalf("%s: %v", what, e)
		}
		back, off, e := image.Read(s)
		if off != 0 || e != api.OK || !image.Same(back, i) || !equal(back, i) {
			t.Errorf("%s: %d, %v", what, off, e)
		}
		if again, e := image.Bytes(back); e != api.OK || again != s {
			t.Errorf("%s: another file, %v", what, e)
		}
	}
}

func TestP3_7_Prefixes(t *testing.T) {
	for _, i := range []api.Image{small(), large()} {
		s, _ := image.Bytes(i)
		for n := range len(s) {
			if got, off, e := image.Read(s[:n]); off != n || e != api.ErrShort || !equal(got, api.Image{}) {
				t.Fatalf("%d of %d bytes: %d, %v", n, len(s), off, e)
			}
		}
	}
}

// accepted reports whether Read accepts a file after an exclusive or with two neighbouring bytes.
func accepted(s string, at int, pattern uint16) bool {
	b := []byte(s)
	b[at] ^= byte(pattern)
	b[at+1] ^= byte(pattern >> 8)
	_, _, e := image.Read(string(b))
	return e == api.OK
}

func TestP3_7_ChangedBits(t *testing.T) {
	s, _ := image.Bytes(small())
	sumAt := len(s) - 2
	positions := []int{100, 2047, 2048, 4000, 4111, 4112, 4113, 4114, 4115, 4116}
	for at := range 40 {
		positions = append(positions, at)
	}
	for _, at := range positions {
		for pattern := 1; pattern < 0x10000; pattern += 331 {
			if accepted(s, at, uint16(pattern)) {
				t.Errorf("pattern %#x at %d", pattern, at)
			}
		}
		for bit := range 16 {
			if accepted(s, at, 1<<bit) {
				t.Errorf("bit %d at %d", bit, at)
			}
		}
	}
	for pattern := 1; pattern < 0x10000; pattern += 7 {
		if accepted(s, sumAt, uint16(pattern)) {
			t.Errorf("pattern %#x in the sum", pattern)
		}
	}
}
