package image_test

import (
	"math"
	"strings"
	"testing"

	"vellum/api"
	"vellum/image"
)

func codePlaces() map[api.Place]int {
	places := map[api.Place]int{}
	for bank := range 64 {
		for _, addr := range []int{0x1000, 0x1001, 0x17ff, 0x1ffd, 0x1ffe, 0x1fff} {
			places[api.Place{Bank: bank, Addr: uint16(addr)}] = addr - 0x1000
		}
	}
	for _, addr := range []int{0, 1, 2, 0x07ff, 0x0ffd, 0x0ffe, 0x0fff} {
		places[api.Place{Addr: uint16(addr)}] = addr
	}
	return places
}

var otherPlaces = []api.Place{
	place(-1, 0), place(-1, 0x1000), place(math.MinInt, 0x1000), place(ram, 0x4000), place(1, 0), place(1, 0x0fff), place(63, 0x0800), place(64, 0), place(64, 0x1000), place(255, 0x1000),
	place(math.MaxInt, 0x1fff), place(0, 0x2000), place(0, 0x2fff), place(0, 0x4000), place(0, 0xf000), place(0, 0xffff), place(5, 0x2000), place(5, 0x3000), place(1<<32, 0), place(1<<32, 0x1000),
}

// unevenImage is not correct: banks of different sizes, more of them than a code address can have.
func unevenImage() api.Image {
	numbered := large().Banks[1]
	i := api.Image{Banks: []string{numbered, numbered[:0x800], "", numbered + "more", numbered[:1]}, Entry: 0xffff}
	for range 70 {
		i.Banks = append(i.Banks, numbered)
	}
	return i
}

func TestP3_4_Offset(t *testing.T) {
	for _, i := range []api.Image{{}, small(), large(), full(), unevenImage()} {
		for p, want := range codePlaces() {
			exists := p.Bank < len(i.Banks) && want < len(i.Banks[p.Bank])
			bank, off, ok := image.Offset(i, p)
			if ok != exists || ok && (bank != p.Bank || off != want) || !ok && (bank != 0 || off != 0) {
				t.Errorf("%v: %d, %d, %v, want %v", p, bank, off, ok, exists)
			}
		}
		for _, p := range otherPlaces {
			if bank, off, ok := image.Offset(i, p); bank != 0 || off != 0 || ok {
				t.Errorf("%v: %d, %d, %v", p, bank, off, ok)
			}
		}
	}
	if _, _, ok := image.Offset(small(), api.Place{Bank: 1, Addr: 0x1002}); ok {
		t.Error("bank 1 of one bank")
	}
}

func TestP3_4_Code(t *testing.T) {
	if s := image.Code(small(), api.Place{Addr: 0x1002}, 2); s != "\x02\x40" {
		t.Errorf("example: %q", s)
	}
	sizes := []int{math.MinInt, -1, 0, 1, 2, 3, 7, 0x07ff, 0x0800, 0x0801, 4095, 4096, 4097, 5000, math.MaxInt - 1, math.MaxInt}
	for _, i := range []api.Image{{}, small(), large(), unevenImage()} {
		for p, off := range codePlaces() {
			var behind string
			if p.Bank < len(i.Banks) && off < len(i.Banks[p.Bank]) {
				behind = i.Banks[p.Bank][off:]
			}
			for _, n := range sizes {
				want := behind
				if n < len(behind) {
					want = behind[:max(n, 0)]
				}
				if got := image.Code(i, p, n); got != want {
					t.Errorf("Code(%v, %d): %d bytes, want %d", p, n, len(got), len(want))
				}
			}
		}
		for _, p := range otherPlaces {
			if s := image.Code(i, p, 4); s != "" {
				t.Errorf("Code(%v): %q", p, s)
			}
		}
	}
}

func TestP3_4_Next(t *testing.T) {
	steps := []int{math.MinInt, math.MinInt + 1, math.MinInt32, -0x10000, -0x1000, -0xfff, -2, -1, 0, 1, 2, 7, 0xffe, 0xfff, 0x1000, 0x1001, 0x10000, 1 << 32, math.MaxInt - 0x1fff, math.MaxInt}
	for p, off := range codePlaces() {
		for _, n := range steps {
			// Two steps of at most the size of a bank decide without wrapping around.
			inside := n >= -4096 && n <= 4096 && off+n >= 0 && off+n < 4096
			want := api.Place{}
			if inside {
				want = api.Place{Bank: p.Bank, Addr: uint16(int(p.Addr) + n)}
			}
			if got, ok := image.Next(p, n); ok != inside || got != want {
				t.Errorf("Next(%v, %d): %v, %v, want %v, %v", p, n, got, ok, want, inside)
			}
		}
	}
	for _, p := range otherPlaces {
		for _, n := range steps {
			if got, ok := image.Next(p, n); ok || got != (api.Place{}) {
				t.Errorf("Next(%v, %d): %v", p, n, got)
			}
		}
	}
}

func TestP3_5_Write(t *testing.T) {
	i, e := image.Write(small(), api.Place{Addr: 5}, "ab")
	want := small()
	want.Banks[0] = "\x00\x00\x02\x40\x00ab" + zeroBank[7:]
	if e != api.OK || !equal(i, want) {
		t.Errorf("example: %v", e)
	}
	for what, x := range map[string]struct {
		p      api.Place
		length int
		want   api.Errno
	}{
		"nothing":                 {api.Place{Bank: 1, Addr: 0x1fff}, 0, api.OK},
		"nothing nowhere":         {api.Place{Bank: 1, Addr: 0x2000}, 0, api.ErrPlace},
		"last byte":               {api.Place{Bank: 2, Addr: 0x1fff}, 1, api.OK},
		"behind the last byte":    {api.Place{Bank: 2, Addr: 0x1fff}, 2, api.ErrPlace},
		"end of bank 0":           {api.Place{Addr: 0x0ffe}, 2, api.OK},
		"over the end of bank 0":  {api.Place{Addr: 0x0ffe}, 3, api.ErrPlace},
		"all of a bank":           {api.Place{Bank: 1, Addr: 0x1000}, 4096, api.OK},
		"more than a bank":        {api.Place{Bank: 1, Addr: 0x1000}, 4097, api.ErrPlace},
		"bank 0 in the window":    {api.Place{Addr: 0x1004}, 3, api.OK},
		"no code address":         {api.Place{Bank: 1, Addr: 4}, 3, api.ErrPlace},
		"bank that is missing":    {api.Place{Bank: 3, Addr: 0x1004}, 3, api.ErrPlace},
		"negative bank":           {api.Place{Bank: -1, Addr: 0x1004}, 3, api.ErrPlace},
		"also where a relocation": {api.Place{Addr: 0}, 6, api.OK},
	} {
		s := strings.Repeat("w", x.length)
		got, e := image.Write(large(), x.p, s)
		want := api.Image{}
		if x.want == api.OK {
			want = large()
			bank := []byte(want.Banks[x.p.Bank])
			copy(bank[x.p.Addr%4096:], s)
			want.Banks[x.p.Bank] = string(bank)
		}
		if e != x.want || !equal(got, want) {
			t.Errorf("%s: %v, want %v", what, e, x.want)
		}
	}
}

func TestP3_5_WriteOfUnevenImages(t *testing.T) {
	for what, x := range map[string]struct {
		p      api.Place
		length int
		want   api.Errno
	}{
		"end of a short bank":          {api.Place{Bank: 1, Addr: 0x17fe}, 2, api.OK},
		"over the end of a short bank": {api.Place{Bank: 1, Addr: 0x17fe}, 3, api.ErrPlace},
		"behind a short bank":          {api.Place{Bank: 1, Addr: 0x1800}, 0, api.ErrPlace},
		"empty bank":                   {api.Place{Bank: 2, Addr: 0x1000}, 0, api.ErrPlace},
		"end of a long bank":           {api.Place{Bank: 3, Addr: 0x1fff}, 5, api.OK},
		"over the end of a long bank":  {api.Place{Bank: 3, Addr: 0x1fff}, 6, api.ErrPlace},
		"bank 64":                      {api.Place{Bank: 64, Addr: 0x1000}, 1, api.ErrPlace},
	} {
		s := strings.Repeat("w", x.length)
		got, e := image.Write(unevenImage(), x.p, s)
		want := api.Image{}
		if x.want == api.OK {
			want = unevenImage()
			off := int(x.p.Addr) - 0x1000
			old := want.Banks[x.p.Bank]
			want.Banks[x.p.Bank] = old[:off] + s + old[off+x.length:]
		}
		if e != x.want || !equal(got, want) {
			t.Errorf("%s: %v, want %v", what, e, x.want)
		}
	}
}

func TestP3_5_WriteSharesNothing(t *testing.T) {
	given := large()
	got, _ := image.Write(given, api.Place{Addr: 9}, "x")
	if !equal(given, large()) {
		t.Error("Write changed its argument")
	}
	want, _ := image.Write(large(), api.Place{Addr: 9}, "x")
	got.Banks[1], got.Data[0].Size, got.Relocs[0].Off = "", 77, 77
	if !equal(given, large()) {
		t.Error("the result shares memory with the argument")
	}
	got, _ = image.Write(given, api.Place{Addr: 9}, "x")
	given.Banks[1], given.Data[0].Size, given.Relocs[0].Off = "", 77, 77
	if !equal(got, want) {
		t.Error("the argument shares memory with the result")
	}
}

func TestP3_7_CodeOfWrite(t *testing.T) {
	for p, off := range codePlaces() {
		for _, s := range []string{"", "a", "ab", "\xff\x00\x80\x7f", zeroBank} {
			i, e := image.Write(large(), p, s)
			if fits := p.Bank < 3 && off+len(s) <= 4096; (e == api.OK) != fits {
				t.Errorf("Write(%v, %d bytes): %v", p, len(s), e)
			}
			if got := image.Code(i, p, len(s)); e == api.OK && got != s {
				t.Errorf("Code(%v) after Write: %q, want %q", p, got, s)
			}
		}
	}
}
