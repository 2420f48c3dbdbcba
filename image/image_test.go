package image_test

import (
	"math"
	"reflect"
	"slices"
	"strings"
	"testing"

	"vellum/api"
	"vellum/image"
)

func TestP3_1_CheckOfBanksAndNumbers(t *testing.T) {
	for what, x := range map[string]struct {
		i    api.Image
		want api.Errno
	}{
		"example":          {small(), api.OK},
		"large":            {large(), api.OK},
		"full":             {full(), api.OK},
		"empty":            {api.Image{}, api.ErrImage},
		"no bank":          {changed(small(), setBanks(), noRelocs), api.ErrImage},
		"one bank":         {api.Image{Banks: []string{zeroBank}}, api.OK},
		"65 banks":         {api.Image{Banks: slices.Repeat([]string{zeroBank}, 65)}, api.ErrImage},
		"64 banks":         {api.Image{Banks: slices.Repeat([]string{zeroBank}, 64)}, api.OK},
		"empty bank":       {api.Image{Banks: []string{""}}, api.ErrImage},
		"short bank":       {api.Image{Banks: []string{zeroBank[1:]}}, api.ErrImage},
		"long bank":        {api.Image{Banks: []string{zeroBank + "\x00"}}, api.ErrImage},
		"short last bank":  {api.Image{Banks: []string{zeroBank, zeroBank, zeroBank[1:]}}, api.ErrImage},
		"long first bank":  {api.Image{Banks: []string{zeroBank + "\x00", zeroBank}}, api.ErrImage},
		"many objects":     {changed(full(), func(i *api.Image) { i.Data = append(i.Data, api.Object{Bank: 0, Size: 1}) }), api.ErrMany},
		"many relocations": {changed(full(), func(i *api.Image) { i.Relocs = append(i.Relocs, api.Reloc{Bank: 63}) }), api.ErrMany},
		"entry":            {changed(small(), setEntry(4096)), api.ErrPlace},
		"last entry":       {changed(small(), setEntry(4095)), api.OK},
		"entry of 0xffff":  {changed(small(), setEntry(0xffff)), api.ErrPlace},
		"vector":           {changed(small(), setVector(4096)), api.ErrPlace},
		"last vector":      {changed(small(), setVector(4095)), api.OK},
		"vector of 0xffff": {changed(small(), setVector(0xffff)), api.ErrPlace},
		"banks and many":   {changed(full(), setBanks(zeroBank, ""), setRelocs(make([]api.Reloc, 20001)...)), api.ErrImage},
		"many and entry":   {changed(small(), setData(make([]api.Object, 513)...), setEntry(4096)), api.ErrMany},
		"many and vector":  {changed(small(), setRelocs(make([]api.Reloc, 20001)...), setVector(4096)), api.ErrMany},
		"many and objects": {changed(small(), setData(api.Object{}), setRelocs(make([]api.Reloc, 20001)...)), api.ErrMany},
		"bank and entry":   {changed(small(), setBanks(zeroBank[1:]), setEntry(4096)), api.ErrImage},
		"bank and object":  {changed(small(), setBanks(zeroBank[1:]), setData(api.Object{})), api.ErrImage},
		"bank and reloc":   {changed(small(), setBanks(""), setRelocs(api.Reloc{Off: 0xffff})), api.ErrImage},
	} {
		if got := image.Check(x.i); got != x.want {
			t.Errorf("%s: %v, want %v", what, got, x.want)
		}
	}
}

func TestP3_1_CheckOfObjects(t *testing.T) {
	before := api.Object{Bank: 0, Addr: 0x100, Size: 0x10}
	for what, x := range map[string]struct {
		data []api.Object
		want api.Errno
	}{
		"no size":               {[]api.Object{obj(ram, 0x4000, 0)}, api.ErrPlace},
		"no size in a bank":     {[]api.Object{obj(0, 0, 0)}, api.ErrPlace},
		"bank -2":               {[]api.Object{obj(-2, 0x4000, 1)}, api.ErrPlace},
		"bank that is missing":  {[]api.Object{obj(2, 0, 1)}, api.ErrPlace},
		"bank 255":              {[]api.Object{obj(255, 0x4000, 1)}, api.ErrPlace},
		"last bank":             {[]api.Object{obj(1, 0, 1)}, api.OK},
		"before RAM":            {[]api.Object{obj(ram, 0x3fff, 2)}, api.ErrPlace},
		"all of RAM":            {[]api.Object{obj(ram, 0x4000, 0x2000)}, api.OK},
		"more than RAM":         {[]api.Object{obj(ram, 0x4000, 0x2001)}, api.ErrPlace},
		"last byte of RAM":      {[]api.Object{obj(ram, 0x5fff, 1)}, api.OK},
		"over the end of RAM":   {[]api.Object{obj(ram, 0x5fff, 2)}, api.ErrPlace},
		"behind RAM":            {[]api.Object{obj(ram, 0x6000, 1)}, api.ErrPlace},
		"around":                {[]api.Object{obj(ram, 0x5000, 0xffff)}, api.ErrPlace},
		"all of a bank":         {[]api.Object{obj(0, 0, 4096)}, api.OK},
		"more than a bank":      {[]api.Object{obj(0, 0, 4097)}, api.ErrPlace},
		"last byte of a bank":   {[]api.Object{obj(0, 4095, 1)}, api.OK},
		"behind a bank":         {[]api.Object{obj(0, 4096, 1)}, api.ErrPlace},
		"address in the window": {[]api.Object{obj(0, 0x1000, 1)}, api.ErrPlace},
		"around a bank":         {[]api.Object{obj(0, 4095, 0xffff)}, api.ErrPlace},
		"direct neighbours":     {[]api.Object{before, obj(0, 0x110, 1)}, api.OK},
		"last byte twice":       {[]api.Object{before, obj(0, 0x10f, 1)}, api.ErrPlace},
		"first byte twice":      {[]api.Object{before, obj(0, 0x100, 1)}, api.ErrPlace},
		"the same twice":        {[]api.Object{before, before}, api.ErrPlace},
		"wrong order":           {[]api.Object{before, obj(0, 0x0ff, 1)}, api.ErrPlace},
		"same place, next bank": {[]api.Object{before, obj(1, 0x100, 0x10)}, api.OK},
		"lower, next bank":      {[]api.Object{before, obj(1, 0, 1)}, api.OK},
		"higher, bank before":   {[]api.Object{obj(1, 0x100, 1), obj(0, 0x200, 1)}, api.ErrPlace},
		"RAM before banks":      {[]api.Object{obj(ram, 0x5fff, 1), before}, api.OK},
		"RAM behind banks":      {[]api.Object{before, obj(ram, 0x5fff, 1)}, api.ErrPlace},
		"third is wrong":        {[]api.Object{obj(ram, 0x4000, 1), before, obj(0, 0x10f, 1)}, api.ErrPlace},
	} {
		i := api.Image{Banks: []string{zeroBank, zeroBank}, Data: x.data}
		if got := image.Check(i); got != x.want {
			t.Errorf("%s: %v, want %v", what, got, x.want)
		}
	}
}

func TestP3_1_CheckOfRelocations(t *testing.T) {
	for what, x := range map[string]struct {
		relocs []api.Reloc
		want   api.Errno
	}{
		"bank -1":              {[]api.Reloc{rel(-1, 0)}, api.ErrPlace},
		"bank that is missing": {[]api.Reloc{rel(3, 0)}, api.ErrPlace},
		"last bank":            {[]api.Reloc{rel(2, 1)}, api.OK},
		"last offset":          {[]api.Reloc{rel(0, 4094)}, api.OK},
		"offset 4095":          {[]api.Reloc{rel(0, 4095)}, api.ErrPlace},
		"offset 4096":          {[]api.Reloc{rel(0, 4096)}, api.ErrPlace},
		"offset 0xffff":        {[]api.Reloc{rel(0, 0xffff)}, api.ErrPlace},
		"twice":                {[]api.Reloc{rel(0, 2), rel(0, 2)}, api.ErrPlace},
		"2 behind":             {[]api.Reloc{rel(0, 0), rel(0, 2)}, api.OK},
		"wrong order":          {[]api.Reloc{rel(0, 2), rel(0, 0)}, api.ErrPlace},
		"wrong order of banks": {[]api.Reloc{rel(2, 1), rel(0, 2)}, api.ErrPlace},
		"lower, next bank":     {[]api.Reloc{rel(0, 2), rel(2, 1)}, api.OK},
		"1 behind, next bank":  {[]api.Reloc{rel(0, 2), rel(2, 3)}, api.OK},
		"word 0":               {[]api.Reloc{rel(0, 0x200)}, api.ErrPlace},
		"third is wrong":       {[]api.Reloc{rel(0, 0), rel(0, 2), rel(0, 0x200)}, api.ErrPlace},
	} {
		i := changed(large(), setRelocs(x.relocs...))
		if got := image.Check(i); got != x.want {
			t.Errorf("%s: %v, want %v", what, got, x.want)
		}
	}
	near := api.Image{Banks: []string{strings.Repeat("\x40", api.BankSize)}, Data: []api.Object{obj(ram, 0x4040, 1)}}
	for distance, want := range map[uint16]api.Errno{0: api.ErrPlace, 1: api.ErrPlace, 2: api.OK, 3: api.OK} {
		i := changed(near, setRelocs(api.Reloc{Off: 7}, api.Reloc{Off: 7 + distance}))
		if got := image.Check(i); got != want {
			t.Errorf("distance %d: %v, want %v", distance, got, want)
		}
	}
}

func TestP3_1_CheckOfRelocatedWords(t *testing.T) {
	data := []api.Object{obj(ram, 0x4100, 3), obj(ram, 0x4104, 1), obj(0, 0x0300, 0x100)}
	for target, want := range map[uint16]api.Errno{
		0: api.ErrPlace, 0x0041: api.ErrPlace, 0x0300: api.ErrPlace, 0x4000: api.ErrPlace, 0x40ff: api.ErrPlace, 0x4100: api.OK,
		0x4101: api.OK, 0x4102: api.OK, 0x4103: api.ErrPlace, 0x4104: api.OK, 0x4105: api.ErrPlace, 0xffff: api.ErrPlace,
	} {
		i := api.Image{Banks: []string{bankWith(map[int]uint16{9: target})}, Data: data, Relocs: []api.Reloc{{Off: 9}}}
		if got := image.Check(i); got != want {
			t.Errorf("word %#x: %v, want %v", target, got, want)
		}
	}
}

var (
	someBanks = []int{math.MinInt, -2, ram, 0, 1, 2, 63, 64, 254, 255, 256, math.MaxInt}
	someAddrs = []uint16{0, 1, 2, 3, 5, 0x0ffe, 0x0fff, 0x1000, 0x1001, 0x1fff, 0x2000, 0x3fff, 0x4000, 0x4001, 0x4002, 0x4005, 0x5ffe, 0x5fff, 0x6000, 0x8000, 0xfffe, 0xffff}
	someSizes = []uint16{0, 1, 2, 3, 0x1000, 0x1001, 0x2000, 0x2001, 0xf001, 0xffff}
)

func someObjects(banks []int, addrs, sizes []uint16) []api.Object {
	var all []api.Object
	for _, bank := range banks {
		for _, addr := range addrs {
			for _, size := range sizes {
				all = append(all, api.Object{Bank: bank, Addr: addr, Size: size})
			}
		}
	}
	return all
}

func TestP3_1_CheckAgainstModel(t *testing.T) {
	check := func(i api.Image) {
		t.Helper()
		if got, want := image.Check(i), modelCheck(i); got != want {
			t.Fatalf("%v, want %v: %v, %v", got, want, i.Data, i.Relocs)
		}
	}
	banks := []string{bankWith(map[int]uint16{0: 0x4001, 2: 0x4005, 4: 0x0003, 4094: 0x4001}), bankWith(map[int]uint16{1: 0x4001, 3: 0x4003})}
	for _, o := range someObjects(someBanks, someAddrs, someSizes) {
		check(api.Image{Banks: banks, Data: []api.Object{o}})
	}
	few := someObjects([]int{ram, 0, 1, 2}, []uint16{0, 1, 2, 5, 0x4000, 0x4001, 0x4002, 0x4005}, []uint16{0, 1, 2, 4})
	for _, first := range few {
		for _, second := range few {
			check(api.Image{Banks: banks, Data: []api.Object{first, second}})
			check(api.Image{Banks: banks, Data: []api.Object{obj(ram, 0x4000, 1), first, second}})
		}
	}
	var relocs []api.Reloc
	for _, bank := range []int{-1, 0, 1, 2} {
		for _, off := range []uint16{0, 1, 2, 3, 4, 4093, 4094, 4095} {
			relocs = append(relocs, api.Reloc{Bank: bank, Off: off})
		}
	}
	for _, first := range relocs {
		for _, second := range relocs {
			check(api.Image{Banks: banks, Data: []api.Object{obj(ram, 0x4000, 6)}, Relocs: []api.Reloc{first, second}})
			check(api.Image{Banks: banks, Data: []api.Object{obj(ram, 0x4001, 1), obj(0, 1, 6)}, Relocs: []api.Reloc{first, second}})
		}
	}
}

func TestP3_6_ObjectAt(t *testing.T) {
	i := small()
	if n, off, ok := image.ObjectAt(i.Data, ram, 0x4003); n != 0 || off != 3 || !ok {
		t.Errorf("example: %d, %d, %v", n, off, ok)
	}
	for _, data := range [][]api.Object{
		nil,
		large().Data,
		{obj(ram, 0x4000, 0), obj(ram, 0x4000, 3), obj(ram, 0x4001, 9), obj(ram, 0x4000, 1), obj(0, 0x4000, 20), obj(0, 0, 5), obj(1, 0, 5), obj(-7, 2, 3), obj(255, 1, 1)},
		{obj(ram, 0xfffe, 9), obj(ram, 0, 2), obj(ram, 0xffff, 1), obj(64, 0xfff0, 0xffff), obj(64, 0, 1), obj(ram, 1, 0xffff)},
	} {
		for _, bank := range append([]int{-7, 5}, someBanks...) {
			for _, a := range append([]uint16{4, 6, 7, 0x4003, 0x4004, 0x4204, 0x4205, 0x4206, 0x400a}, someAddrs...) {
				n := slices.IndexFunc(data, func(o api.Object) bool { return modelContains(o, bank, int(a)) })
				found, off := n >= 0, uint16(0)
				if found {
					off = a - data[n].Addr
				}
				gotN, gotOff, ok := image.ObjectAt(data, bank, a)
				if ok != found || gotN != max(n, 0) || gotOff != off {
					t.Errorf("ObjectAt(%v, %d, %#x): %d, %d, %v", data, bank, a, gotN, gotOff, ok)
				}
			}
		}
	}
}

func TestP3_6_IsReloc(t *testing.T) {
	if image.IsReloc(small(), 0, 3) || !image.IsReloc(small(), 0, 2) {
		t.Error("example")
	}
	wrong := api.Image{Relocs: []api.Reloc{rel(5, 0xffff), rel(0, 7), rel(-1, 3), rel(0, 0), rel(0, 7), rel(math.MaxInt, 9)}}
	for _, i := range []api.Image{{}, small(), large(), wrong} {
		for _, bank := range append([]int{5}, someBanks...) {
			for _, off := range []int{math.MinInt, -0x10000, -0xfff9, -3, -1, 0, 1, 2, 3, 7, 9, 0x102, 0xff8, 4094, 4095, 0xffff, 0x10000, 0x10002, 0x10007, 1<<32 + 2, math.MaxInt} {
				want := slices.ContainsFunc(i.Relocs, func(r api.Reloc) bool { return r.Bank == bank && int(r.Off) == off })
				if got := image.IsReloc(i, bank, off); got != want {
					t.Errorf("IsReloc(%v, %d, %d): %v", i.Relocs, bank, off, got)
				}
			}
		}
	}
}

func TestP3_6_Same(t *testing.T) {
	for what, change := range map[string]func(*api.Image){
		"entry":              func(i *api.Image) { i.Entry++ },
		"vector":             func(i *api.Image) { i.Vector++ },
		"a byte":             func(i *api.Image) { i.Banks[2] = i.Banks[2][:4095] + "\x01" },
		"size of a bank":     func(i *api.Image) { i.Banks[0] = i.Banks[0][1:] },
		"number of banks":    func(i *api.Image) { i.Banks = i.Banks[:2] },
		"order of banks":     func(i *api.Image) { i.Banks[0], i.Banks[1] = i.Banks[1], i.Banks[0] },
		"bank of an object":  func(i *api.Image) { i.Data[8].Bank = 1 },
		"addr of an object":  func(i *api.Image) { i.Data[0].Addr++ },
		"size of an object":  func(i *api.Image) { i.Data[8].Size-- },
		"number of objects":  func(i *api.Image) { i.Data = i.Data[:8] },
		"no objects":         func(i *api.Image) { i.Data = nil },
		"bank of a reloc":    func(i *api.Image) { i.Relocs[6].Bank = 1 },
		"offset of a reloc":  func(i *api.Image) { i.Relocs[0].Off++ },
		"number of relocs":   func(i *api.Image) { i.Relocs = i.Relocs[1:] },
		"no relocs":          func(i *api.Image) { i.Relocs = nil },
		"order of relocs":    func(i *api.Image) { i.Relocs[0], i.Relocs[1] = i.Relocs[1], i.Relocs[0] },
		"objects, same size": func(i *api.Image) { i.Data[3], i.Data[4] = i.Data[4], i.Data[3] },
	} {
		other := changed(large(), change)
		if image.Same(large(), other) || image.Same(other, large()) {
			t.Errorf("%s: the same", what)
		}
		if !image.Same(other, other) {
			t.Errorf("%s: not the same as itself", what)
		}
	}
	empty := api.Image{Banks: []string{}, Data: []api.Object{}, Relocs: []api.Reloc{}}
	if !image.Same(large(), large()) || !image.Same(api.Image{}, api.Image{}) || !image.Same(empty, api.Image{}) || !image.Same(api.Image{}, empty) {
		t.Error("equal images are not the same")
	}
}

func TestP1_CallsAreIndependent(t *testing.T) {
	s := modelFile(large())
	first, _, _ := image.Read(s)
	first.Banks[0], first.Data[0].Size, first.Relocs[0].Off = "", 77, 77
	if _, off, e := image.Read(s[:50]); off != 50 || e != api.ErrShort {
		t.Errorf("short file: %d, %v", off, e)
	}
	second, off, e := image.Read(s)
	if off != 0 || e != api.OK || !equal(second, large()) {
		t.Errorf("second Read: %d, %v", off, e)
	}
	given := large()
	image.Check(given)
	file, _ := image.Bytes(given)
	image.Same(given, second)
	image.ObjectAt(given.Data, 0, 0)
	if !reflect.DeepEqual(given, large()) {
		t.Error("an argument was changed")
	}
	if again, _ := image.Bytes(given); again != file || file != s {
		t.Error("another file")
	}
}
