package ir_test

import (
	"fmt"
	"math"
	"slices"
	"testing"

	"vellum/api"
	"vellum/ir"
)

// checkValid compares Valid with an error, and with the model.
func checkValid(t *testing.T, what string, p api.IrProg, want api.Errno) {
	t.Helper()
	if got := ir.Valid(p); got != want {
		t.Errorf("%s: Valid: %v, want %v", what, got, want)
	}
	if got := modelValid(p); got != want {
		t.Errorf("%s: the model contradicts the test: %v, want %v", what, got, want)
	}
}

// externals returns a program of external functions without arguments, with objects and banks.
func externals(functions, objects, banks int) api.IrProg {
	p := api.IrProg{Funcs: make([]api.IrFunc, functions), Args: make([]int, functions), Handler: -1}
	for k := range objects {
		p.Data = append(p.Data, api.Object{Bank: api.RamBank, Addr: uint16(0x4000 + 16*k), Size: 16})
	}
	for range banks {
		p.Banks = append(p.Banks, zeroBank)
	}
	return p
}

func TestP7_1_Limits(t *testing.T) {
	for _, x := range []struct {
		functions, objects, banks int
		want                      api.Errno
	}{
		{1, 0, 0, api.OK},
		{2000, 512, 64, api.OK},
		{2001, 512, 64, api.ErrMany},
		{2000, 513, 64, api.ErrMany},
		{2000, 512, 65, api.ErrMany},
		{2001, 0, 0, api.ErrMany},
		{1, 513, 0, api.ErrMany},
		{1, 0, 65, api.ErrMany},
		{0, 513, 0, api.ErrMany},
		{100000, 1, 1, api.ErrMany},
		{0, 512, 64, api.ErrArg},
	} {
		checkValid(t, fmt.Sprint(x), externals(x.functions, x.objects, x.banks), x.want)
	}
}

func TestP7_1_OrderOfErrors(t *testing.T) {
	many := func(p *api.IrProg) { p.Banks = make([]string, 65) }
	args := func(p *api.IrProg) { p.Args = p.Args[1:] }
	entry := func(p *api.IrProg) { p.Entry = 99 }
	bank := func(p *api.IrProg) { p.Banks = append(p.Banks, "") }
	object := func(p *api.IrProg) { p.Data = append(p.Data, api.Object{Bank: api.RamBank}) }
	graph := func(p *api.IrProg) { p.Funcs[doubles] = function(api.IrBlock{}) }
	for what, x := range map[string]struct {
		changes []func(*api.IrProg)
		want    api.Errno
	}{
		"nothing":          {nil, api.OK},
		"all":              {[]func(*api.IrProg){many, args, entry, object, graph}, api.ErrMany},
		"many and graph":   {[]func(*api.IrProg){many, graph}, api.ErrMany},
		"many and args":    {[]func(*api.IrProg){many, args}, api.ErrMany},
		"all but many":     {[]func(*api.IrProg){args, entry, bank, object, graph}, api.ErrArg},
		"args and graph":   {[]func(*api.IrProg){args, graph}, api.ErrArg},
		"entry and bank":   {[]func(*api.IrProg){entry, bank}, api.ErrArg},
		"entry and object": {[]func(*api.IrProg){entry, object}, api.ErrArg},
		"bank and graph":   {[]func(*api.IrProg){bank, graph}, api.ErrPlace},
		"object and graph": {[]func(*api.IrProg){object, graph}, api.ErrPlace},
		"graph":            {[]func(*api.IrProg){graph}, api.ErrGraph},
	} {
		checkValid(t, what, changed(straight(-1), x.changes...), x.want)
	}
}

func TestP7_1_Arguments(t *testing.T) {
	for what, x := range map[string]struct {
		args           []int
		entry, handler int
		want           api.Errno
	}{
		"none":                        {nil, 0, -1, api.ErrArg},
		"one less":                    {list(0, 0), 0, -1, api.ErrArg},
		"one more":                    {list(0, 0, 0, 0), 0, -1, api.ErrArg},
		"0 to 8":                      {list(0, 7, 8), 0, -1, api.OK},
		"9":                           {list(0, 0, 9), 0, -1, api.ErrArg},
		"-1":                          {list(0, -1, 0), 0, -1, api.ErrArg},
		"9 of the entry":              {list(9, 0, 0), 0, -1, api.ErrArg},
		"the last one":                {list(8, 8, 0), 2, -1, api.OK},
		"entry with one argument":     {list(0, 1, 0), 1, -1, api.ErrArg},
		"entry with 8 arguments":      {list(0, 0, 8), 2, -1, api.ErrArg},
		"entry that is missing":       {list(0, 0, 0), 3, -1, api.ErrArg},
		"entry -1":                    {list(0, 0, 0), -1, -1, api.ErrArg},
		"handler that is the entry":   {list(0, 0, 0), 0, 0, api.OK},
		"the last handler":            {list(0, 8, 0), 0, 2, api.OK},
		"handler with one argument":   {list(0, 1, 0), 0, 1, api.ErrArg},
		"handler with 8 arguments":    {list(0, 8, 0), 0, 1, api.ErrArg},
		"handler that is missing":     {list(0, 0, 0), 0, 3, api.ErrArg},
		"handler -2":                  {list(0, 0, 0), 0, -2, api.ErrArg},
		"wrong entry, right handler":  {list(0, 1, 0), 1, 0, api.ErrArg},
		"wrong numbers of both":       {list(0, 1, 0), -1, -2, api.ErrArg},
		"both without, others before": {list(3, 0, 0), 1, 2, api.OK},
	} {
		checkValid(t, what, api.IrProg{Funcs: make([]api.IrFunc, 3), Args: x.args, Entry: x.entry, Handler: x.handler}, x.want)
	}
	for _, n := range farNumbers {
		p := externals(2, 0, 0)
		checkValid(t, fmt.Sprintf("entry %d", n), changed(p, func(p *api.IrProg) { p.Entry = n }), api.ErrArg)
		checkValid(t, fmt.Sprintf("handler %d", n), changed(p, func(p *api.IrProg) { p.Handler = n }), api.ErrArg)
		checkValid(t, fmt.Sprintf("%d arguments", n), changed(p, func(p *api.IrProg) { p.Args = list(0, n) }), api.ErrArg)
	}
}

func TestP7_1_Banks(t *testing.T) {
	for what, x := range map[string]struct {
		banks []string
		want  api.Errno
	}{
		"one":              {[]string{zeroBank}, api.OK},
		"an empty one":     {[]string{""}, api.ErrPlace},
		"one byte less":    {[]string{zeroBank[1:]}, api.ErrPlace},
		"one byte more":    {[]string{zeroBank + "x"}, api.ErrPlace},
		"the second one":   {[]string{zeroBank, zeroBank[1:]}, api.ErrPlace},
		"the first of two": {[]string{zeroBank[1:], zeroBank}, api.ErrPlace},
		"twice as much":    {[]string{zeroBank + zeroBank}, api.ErrPlace},
	} {
		checkValid(t, what, api.IrProg{Funcs: make([]api.IrFunc, 1), Args: list(0), Handler: -1, Banks: x.banks}, x.want)
	}
}

func TestP7_1_Objects(t *testing.T) {
	ram := func(addr, size uint16) api.Object { return api.Object{Bank: api.RamBank, Addr: addr, Size: size} }
	in := func(bank int, addr, size uint16) api.Object { return api.Object{Bank: bank, Addr: addr, Size: size} }
	for what, x := range map[string]struct {
		data []api.Object
		want api.Errno
	}{
		"all of RAM":                    {[]api.Object{ram(0x4000, 0x2000)}, api.OK},
		"more than RAM":                 {[]api.Object{ram(0x4000, 0x2001)}, api.ErrPlace},
		"no size":                       {[]api.Object{ram(0x4000, 0)}, api.ErrPlace},
		"no size in a bank":             {[]api.Object{in(0, 0, 0)}, api.ErrPlace},
		"before RAM":                    {[]api.Object{ram(0x3fff, 2)}, api.ErrPlace},
		"address 0 in RAM":              {[]api.Object{ram(0, 2)}, api.ErrPlace},
		"last byte of RAM":              {[]api.Object{ram(0x5fff, 1)}, api.OK},
		"over the end of RAM":           {[]api.Object{ram(0x5fff, 2)}, api.ErrPlace},
		"behind RAM":                    {[]api.Object{ram(0x6000, 1)}, api.ErrPlace},
		"around":                        {[]api.Object{ram(0x5000, 0xffff)}, api.ErrPlace},
		"all of a bank":                 {[]api.Object{in(1, 0, 4096)}, api.OK},
		"more than a bank":              {[]api.Object{in(1, 0, 4097)}, api.ErrPlace},
		"last byte of a bank":           {[]api.Object{in(0, 4095, 1)}, api.OK},
		"over the end of a bank":        {[]api.Object{in(0, 4095, 2)}, api.ErrPlace},
		"behind a bank":                 {[]api.Object{in(0, 4096, 1)}, api.ErrPlace},
		"RAM address in a bank":         {[]api.Object{in(0, 0x4000, 1)}, api.ErrPlace},
		"around a bank":                 {[]api.Object{in(0, 4095, 0xffff)}, api.ErrPlace},
		"last bank":                     {[]api.Object{in(1, 0, 1)}, api.OK},
		"bank that is missing":          {[]api.Object{in(2, 0, 1)}, api.ErrPlace},
		"bank -2":                       {[]api.Object{in(-2, 0, 1)}, api.ErrPlace},
		"bank -2, RAM address":          {[]api.Object{in(-2, 0x4000, 1)}, api.ErrPlace},
		"least bank":                    {[]api.Object{in(math.MinInt, 0, 1)}, api.ErrPlace},
		"bank 1 << 32":                  {[]api.Object{in(1<<32, 0, 1)}, api.ErrPlace},
		"neighbours":                    {[]api.Object{ram(0x4010, 4), ram(0x4014, 1), ram(0x400f, 1)}, api.OK},
		"neighbours in a bank":          {[]api.Object{in(1, 8, 8), in(1, 16, 1), in(1, 0, 8)}, api.OK},
		"last byte twice":               {[]api.Object{ram(0x4010, 4), ram(0x4013, 2)}, api.ErrPlace},
		"first byte twice":              {[]api.Object{ram(0x4010, 4), ram(0x400f, 2)}, api.ErrPlace},
		"the same twice":                {[]api.Object{ram(0x4010, 4), ram(0x4010, 4)}, api.ErrPlace},
		"inside":                        {[]api.Object{ram(0x4010, 4), ram(0x4011, 1)}, api.ErrPlace},
		"around another one":            {[]api.Object{ram(0x4010, 4), ram(0x4000, 0x100)}, api.ErrPlace},
		"same address, longer":          {[]api.Object{ram(0x4010, 1), ram(0x4010, 8)}, api.ErrPlace},
		"overlap in a bank":             {[]api.Object{in(1, 8, 8), in(1, 15, 1)}, api.ErrPlace},
		"same offsets in other banks":   {[]api.Object{in(0, 8, 8), in(1, 8, 8)}, api.OK},
		"any order":                     {[]api.Object{in(1, 8, 8), ram(0x5000, 1), in(0, 100, 1), ram(0x4000, 1), in(0, 0, 1)}, api.OK},
		"overlap far from each other":   {[]api.Object{in(1, 8, 8), ram(0x5000, 2), in(1, 100, 1), ram(0x4000, 1), in(0, 0, 1), ram(0x5001, 1)}, api.ErrPlace},
		"one overlaps the one before":   {[]api.Object{ram(0x4000, 0x1000), ram(0x5000, 2), ram(0x4800, 1), ram(0x5002, 1)}, api.ErrPlace},
		"wrong one behind others":       {[]api.Object{ram(0x4000, 1), ram(0x4001, 1), ram(0x3000, 1)}, api.ErrPlace},
		"wrong one before others":       {[]api.Object{ram(0x4000, 0), ram(0x4001, 1), ram(0x4002, 1)}, api.ErrPlace},
		"offset of the end, wrapped":    {[]api.Object{in(0, 0x1000, 0xf001)}, api.ErrPlace},
		"address of the end, wrapped":   {[]api.Object{ram(0x6000, 0xe000)}, api.ErrPlace},
		"offset of the end, wrapped, 2": {[]api.Object{in(0, 1, 0xffff), in(0, 0, 1)}, api.ErrPlace},
	} {
		p := externals(1, 0, 2)
		p.Data = x.data
		checkValid(t, what, p, x.want)
		slices.Reverse(p.Data)
		checkValid(t, what+", reversed", p, x.want)
	}
	p := externals(1, 0, 0)
	p.Data = []api.Object{in(0, 0, 1)}
	checkValid(t, "no bank", p, api.ErrPlace)
}

// plain returns an operation with a code that is valid behind the definitions of the values 10, 11 and 12.
func plain(code int) api.IrOp {
	o := api.IrOp{Code: code, Res: -1}
	for _, field := range modelFields[code] {
		switch field {
		case 'R':
			o.Res = 20
		case 'A':
			o.A = 10
		case 'B':
			o.B = 11
		case 'O':
			o.A = 1
		case 'F':
			o.A, o.Args = doubles, list(12)
		case 'N', 'P':
			o.N = 1
		}
	}
	return o
}

// behindThree returns a program with an operation behind the definitions of the values 10, 11 and 12.
func behindThree(o api.IrOp) api.IrProg {
	return straight(-1, konst(10, 1), konst(11, 2), konst(12, 3), o)
}

func TestP7_1_Operations(t *testing.T) {
	for _, code := range codes {
		o := plain(code)
		checkValid(t, fmt.Sprintf("%+v", o), behindThree(o), api.OK)
	}
	for _, code := range append(list(0, -1, 28, 29, 99), farNumbers...) {
		for _, res := range list(-1, 20) {
			o := api.IrOp{Code: code, Res: res}
			checkValid(t, fmt.Sprintf("%+v", o), behindThree(o), api.ErrGraph)
		}
	}
}

func TestP7_1_FieldsOfOperations(t *testing.T) {
	// Which of the fields of each operation may be what is decided by the model; the operation is used nowhere.
	for _, code := range codes {
		check := func(change func(o *api.IrOp)) {
			o := plain(code)
			change(&o)
			p := behindThree(o)
			if got, want := ir.Valid(p), modelValid(p); got != want {
				t.Errorf("%+v: Valid: %v, want %v", o, got, want)
			}
		}
		numbers := append(numbersFrom(-1, 25), 65534, 65535)
		for _, n := range append(numbers, farNumbers...) {
			check(func(o *api.IrOp) { o.Res = n })
			check(func(o *api.IrOp) { o.A = n })
			check(func(o *api.IrOp) { o.B = n })
			check(func(o *api.IrOp) { o.Args = list(n) })
			check(func(o *api.IrOp) { o.Args = list(n, 10) })
			check(func(o *api.IrOp) { o.Args = list(10, n) })
			check(func(o *api.IrOp) { o.A, o.Args = n, nil })
		}
		for _, n := range append(slices.Clone(words), 254, 256, 257) {
			check(func(o *api.IrOp) { o.N = n })
		}
		check(func(o *api.IrOp) { o.Args = []int{} })
		check(func(o *api.IrOp) { o.Res, o.A = 20, 20 })
		check(func(o *api.IrOp) { o.Res, o.B = 20, 20 })
		check(func(o *api.IrOp) { o.Res, o.Args = 20, list(20) })
	}
}

func TestP7_1_NamedFields(t *testing.T) {
	for what, x := range map[string]struct {
		o    api.IrOp
		want api.Errno
	}{
		"greatest value":              {konst(65535, 0), api.OK},
		"too great a value":           {konst(65536, 0), api.ErrGraph},
		"negative value":              {konst(-2, 0), api.ErrGraph},
		"no result":                   {konst(-1, 0), api.ErrGraph},
		"result of a store":           {api.IrOp{Code: api.IStore, Res: 20, A: 10, B: 11}, api.ErrGraph},
		"result 0 of OUT":             {api.IrOp{Code: api.IOut, A: 10, N: 1}, api.ErrGraph},
		"result 0 of POLL":            {api.IrOp{Code: api.IPoll}, api.ErrGraph},
		"first object":                {object(20, 0, 0xffff), api.OK},
		"last object":                 {object(20, 1, 0), api.OK},
		"object that is missing":      {object(20, 2, 0), api.ErrGraph},
		"object -1":                   {object(20, -1, 0), api.ErrGraph},
		"port 1":                      {in(20, 1), api.OK},
		"port 255":                    {in(20, 255), api.OK},
		"port 0":                      {in(20, 0), api.ErrGraph},
		"port 256":                    {in(20, 256), api.ErrGraph},
		"output to port 255":          {out(10, 255), api.OK},
		"output to port 0":            {out(10, 0), api.ErrGraph},
		"output to port 256":          {out(10, 256), api.ErrGraph},
		"bank that is missing":        {rom(api.IRom, 20, 10, 64), api.OK},
		"last number of a bank":       {rom(api.IRomb, 20, 10, 0xffff), api.OK},
		"call with a result":          {call(20, doubles, 10), api.OK},
		"call without a result":       {call(-1, doubles, 10), api.OK},
		"call of itself":              {call(20, tested), api.OK},
		"call of the entry":           {call(-1, halts), api.OK},
		"call of an external one":     {call(20, external, 12), api.OK},
		"call of the last function":   {call(20, silent), api.OK},
		"function that is missing":    {call(20, 5), api.ErrGraph},
		"function -1":                 {call(20, -1), api.ErrGraph},
		"no argument":                 {call(20, doubles), api.ErrGraph},
		"two arguments":               {call(20, doubles, 10, 11), api.ErrGraph},
		"argument that is not wanted": {call(20, silent, 10), api.ErrGraph},
		"argument that is no value":   {call(20, doubles, 13), api.ErrGraph},
		"negative argument":           {call(20, doubles, -1), api.ErrGraph},
		"result as an argument":       {call(20, doubles, 20), api.ErrGraph},
		"result as an operand":        {unary(api.INeg, 20, 20), api.ErrGraph},
		"defined again":               {konst(12, 3), api.ErrGraph},
	} {
		checkValid(t, what, behindThree(x.o), x.want)
	}
}

func TestP7_1_Terminators(t *testing.T) {
	to := edge(1)
	for what, x := range map[string]struct {
		term api.Term
		want api.Errno
	}{
		"jump":                        {jump(1), api.OK},
		"jump with A":                 {api.Term{Kind: api.TJump, A: 10, To: []api.Edge{to}}, api.ErrGraph},
		"jump with A -1":              {api.Term{Kind: api.TJump, A: -1, To: []api.Edge{to}}, api.ErrGraph},
		"jump, two edges":             {api.Term{Kind: api.TJump, To: []api.Edge{to, to}}, api.ErrGraph},
		"branch":                      {branch(10, to, to), api.OK},
		"branch, one edge":            {branch(10, to), api.ErrGraph},
		"branch, three edges":         {branch(10, to, to, to), api.ErrGraph},
		"branch, not a value":         {branch(13, to, to), api.ErrGraph},
		"branch, -1":                  {branch(-1, to, to), api.ErrGraph},
		"switch, one edge":            {choose(10, to), api.OK},
		"switch, four edges":          {choose(10, to, to, to, to), api.OK},
		"switch, not a value":         {choose(13, to), api.ErrGraph},
		"switch, -1":                  {choose(-1, to), api.ErrGraph},
		"kind 0":                      {api.Term{To: []api.Edge{to}}, api.ErrGraph},
		"kind 6":                      {api.Term{Kind: 6, To: []api.Edge{to}}, api.ErrGraph},
		"return, one edge":            {api.Term{Kind: api.TReturn, A: 10, To: []api.Edge{to}}, api.ErrGraph},
		"return of nothing, one edge": {api.Term{Kind: api.TReturn, A: -1, To: []api.Edge{to}}, api.ErrGraph},
		"halt, one edge":              {api.Term{Kind: api.THalt, To: []api.Edge{to}}, api.ErrGraph},
		"edge to itself":              {jump(0), api.ErrGraph},
		"one of two to itself":        {branch(10, to, edge(0)), api.ErrGraph},
		"edge to no block":            {branch(10, to, edge(2)), api.ErrGraph},
		"edge to block -1":            {branch(10, to, edge(-1)), api.ErrGraph},
		"edge with an argument":       {jump(1, 10), api.ErrGraph},
	} {
		checkValid(t, what, program(0, block(nil, x.term, konst(10, 1)), block(nil, ret(10))), x.want)
	}
	for what, x := range map[string]struct {
		term api.Term
		want api.Errno
	}{
		"return":              {ret(10), api.OK},
		"return of nothing":   {ret(-1), api.OK},
		"return, not a value": {ret(13), api.ErrGraph},
		"return of -2":        {ret(-2), api.ErrGraph},
		"halt":                {halt(), api.OK},
		"halt with A":         {api.Term{Kind: api.THalt, A: 10}, api.ErrGraph},
		"halt with A -1":      {api.Term{Kind: api.THalt, A: -1}, api.ErrGraph},
		"jump, no edge":       {api.Term{Kind: api.TJump}, api.ErrGraph},
		"branch, no edge":     {branch(10), api.ErrGraph},
		"switch, no edge":     {choose(10), api.ErrGraph},
		"kind 0":              {api.Term{}, api.ErrGraph},
		"kind 6":              {api.Term{Kind: 6}, api.ErrGraph},
		"kind -1":             {api.Term{Kind: -1}, api.ErrGraph},
	} {
		checkValid(t, what, program(0, block(nil, x.term, konst(10, 1))), x.want)
	}
}

func TestP7_1_Parameters(t *testing.T) {
	for count := range 10 {
		for args := range 9 {
			want := api.ErrGraph
			if count == args {
				want = api.OK
			}
			p := program(args, block(numbersFrom(1, count), ret(-1)))
			checkValid(t, fmt.Sprintf("%d parameters of %d", count, args), p, want)
			p = program(0, block(nil, jump(1, slices.Repeat(list(0), args)...), konst(0, 1)), block(numbersFrom(1, count), ret(-1)))
			checkValid(t, fmt.Sprintf("%d arguments of an edge for %d parameters", args, count), p, want)
		}
	}
	for _, n := range append(list(-1), farNumbers...) {
		checkValid(t, fmt.Sprintf("parameter %d", n), program(1, block(list(n), ret(-1))), api.ErrGraph)
		p := program(1, block(list(0), jump(1, 0)), block(list(n), ret(-1)))
		checkValid(t, fmt.Sprintf("parameter %d of block 1", n), p, api.ErrGraph)
	}
	checkValid(t, "the greatest parameters", program(2, block(list(65535, 65534), ret(65535))), api.OK)
}

func TestP7_1_EveryValueOnce(t *testing.T) {
	next := block(nil, ret(-1))
	for what, p := range map[string]api.IrProg{
		"parameters of a block":         program(2, block(list(3, 3), ret(3))),
		"parameters of two blocks":      program(1, block(list(3), jump(1, 3)), block(list(3), ret(3))),
		"parameter and result":          program(1, block(list(3), ret(3), konst(3, 1))),
		"results":                       program(0, block(nil, ret(3), konst(3, 1), konst(3, 1))),
		"results of two blocks":         program(0, block(nil, jump(1), konst(3, 1)), block(nil, ret(3), konst(3, 1))),
		"result and parameter":          program(0, block(nil, jump(1, 3), konst(3, 1)), block(list(3), ret(3))),
		"results of other branches":     program(1, block(list(1), branch(1, edge(1), edge(2))), block(nil, ret(3), konst(3, 1)), block(nil, ret(3), konst(3, 1))),
		"parameters of other branches":  program(1, block(list(1), branch(1, edge(1, 1), edge(2, 1))), block(list(3), ret(3)), block(list(3), ret(3))),
		"value 0":                       program(1, block(list(0), ret(0), konst(0, 1))),
		"values 65535":                  program(1, block(list(65535), ret(65535), konst(65535, 1))),
		"results of calls":              program(0, block(nil, ret(3), call(3, silent), call(3, silent))),
		"result that is never used":     program(1, block(list(1), jump(1)), block(nil, jump(2), konst(2, 1)), block(nil, ret(-1), konst(2, 1))),
		"of the last of many functions": changed(straight(-1), func(p *api.IrProg) { p.Funcs[silent] = function(block(nil, ret(3), konst(3, 1), konst(3, 1))) }),
	} {
		checkValid(t, what, p, api.ErrGraph)
	}
	same := function(block(list(3), jump(1), konst(0, 1)), next)
	p := program(1, same.Blocks...)
	p.Funcs[doubles] = same
	checkValid(t, "the same values in other functions", p, api.OK)
	p.Funcs[silent] = function(block(nil, ret(3), konst(2, 1)))
	checkValid(t, "a value of another function", p, api.ErrGraph)
	p.Funcs[silent] = function(block(nil, ret(0), konst(2, 1)))
	checkValid(t, "a value of the function before", p, api.ErrGraph)
	p.Funcs[silent] = function(block(nil, ret(-1), call(-1, silent), konst(2, 1), unary(api.INeg, 1, 3), konst(3, 1)))
	checkValid(t, "a value of another function that is defined later", p, api.ErrGraph)
}

func TestP7_1_DefinedBeforeUse(t *testing.T) {
	diamond := func(left, right, last api.IrBlock) api.IrProg {
		return program(1, block(list(0), branch(0, edge(1), edge(2)), konst(1, 1)), left, right, last)
	}
	left, right := block(nil, jump(3), konst(2, 2)), block(nil, jump(3), konst(3, 3))
	loop := func(head api.IrBlock, term api.Term) api.IrProg {
		return program(1, block(list(0), jump(1), konst(1, 1)), head, block(nil, term, konst(3, 3)), block(nil, ret(-1), konst(4, 4)))
	}
	back := jump(1)
	for what, x := range map[string]struct {
		p    api.IrProg
		want api.Errno
	}{
		"the last operation":            {straight(3, konst(2, 1), konst(3, 1)), api.OK},
		"behind, in the same block":     {straight(-1, unary(api.INeg, 1, 0), konst(0, 1)), api.ErrGraph},
		"no value at all":               {program(0, block(nil, ret(0))), api.ErrGraph},
		"value 65535 is missing":        {straight(65535, konst(0, 1)), api.ErrGraph},
		"parameter of the same block":   {program(1, block(list(7), ret(7), unary(api.INeg, 0, 7))), api.OK},
		"block 0":                       {diamond(left, right, block(nil, ret(1), binary(api.IAdd, 4, 0, 1))), api.OK},
		"one branch":                    {diamond(left, right, block(nil, ret(2))), api.ErrGraph},
		"the other branch":              {diamond(left, right, block(nil, ret(3))), api.ErrGraph},
		"branch, by an operation":       {diamond(left, right, block(nil, ret(-1), unary(api.INeg, 4, 2))), api.ErrGraph},
		"branch, by a second operand":   {diamond(left, right, block(nil, ret(-1), binary(api.IAdd, 4, 0, 3))), api.ErrGraph},
		"branch, by a call":             {diamond(left, right, block(nil, ret(-1), call(4, doubles, 2))), api.ErrGraph},
		"from one branch to the other":  {diamond(left, block(nil, jump(3), unary(api.INeg, 3, 2)), block(nil, ret(-1))), api.ErrGraph},
		"edge of its own block":         {diamond(block(nil, jump(3, 2), konst(2, 2)), block(nil, jump(3, 3), konst(3, 3)), block(list(4), ret(4))), api.OK},
		"edge of the other branch":      {diamond(block(nil, jump(3, 2), konst(2, 2)), block(nil, jump(3, 2), konst(3, 3)), block(list(4), ret(4))), api.ErrGraph},
		"edge of a later block":         {diamond(block(nil, jump(3, 4), konst(2, 2)), block(nil, jump(3, 3), konst(3, 3)), block(list(4), ret(4))), api.ErrGraph},
		"second argument of an edge":    {diamond(block(nil, jump(3, 0, 3), konst(2, 2)), block(nil, jump(3, 0, 3), konst(3, 3)), block(list(4, 5), ret(4))), api.ErrGraph},
		"head of a loop":                {loop(block(nil, branch(0, edge(2), edge(3)), konst(2, 2)), jump(3)), api.OK},
		"head, in the loop":             {loop(block(nil, branch(2, edge(2), edge(3)), konst(2, 2)), jump(1)), api.OK},
		"body, in the head":             {loop(block(nil, branch(3, edge(2), edge(3)), konst(2, 2)), back), api.ErrGraph},
		"body, in the head's operation": {loop(block(nil, branch(0, edge(2), edge(3)), unary(api.INeg, 2, 3)), back), api.ErrGraph},
		"loop of one block, later":      {program(0, block(nil, jump(1), konst(0, 1)), block(nil, branch(0, edge(1), edge(2)), unary(api.INeg, 1, 2), konst(2, 1)), block(nil, ret(-1))), api.ErrGraph},
		"edge of a loop of one block":   {program(0, block(nil, jump(1, 0), konst(0, 1)), block(list(1), branch(0, edge(1, 2), edge(2)), konst(2, 1)), block(nil, ret(2))), api.OK},
		"own parameter, by an edge":     {program(0, block(nil, jump(1, 1), konst(0, 1)), block(list(1), ret(1))), api.ErrGraph},
		"block with a lower number":     {program(0, block(nil, jump(2)), block(nil, ret(5)), block(nil, jump(1), konst(5, 1))), api.OK},
		"behind itself in a call":       {straight(-1, call(0, doubles, 0)), api.ErrGraph},
		"skipped block":                 {program(1, block(list(0), choose(0, edge(1), edge(2))), block(nil, jump(2), konst(1, 1)), block(nil, ret(1))), api.ErrGraph},
	} {
		checkValid(t, what, x.p, x.want)
	}
}

func TestP7_1_BlocksThatAreNotReached(t *testing.T) {
	next := block(nil, ret(-1))
	for what, p := range map[string]api.IrProg{
		"the last one":              program(0, next, next),
		"one in the middle":         program(0, block(nil, jump(2)), next, next),
		"one that leads to another": program(0, block(nil, jump(2)), block(nil, jump(2)), next),
		"two that lead to another":  program(0, next, block(nil, jump(2)), block(nil, jump(1))),
		"its own successor":         program(0, next, block(nil, jump(1))),
		"in another function":       changed(straight(-1), func(p *api.IrProg) { p.Funcs[silent] = function(next, next) }),
	} {
		checkValid(t, what, p, api.ErrGraph)
	}
	checkValid(t, "all", program(0, block(nil, jump(3)), next, block(nil, jump(1)), block(nil, jump(2))), api.OK)
	checkValid(t, "a loop without end", program(0, block(nil, jump(1)), block(nil, jump(1))), api.OK)
}

func TestP7_1_EveryFunction(t *testing.T) {
	wrong := function(block(nil, ret(0)))
	for n := range 5 {
		p := straight(-1)
		p.Args = list(0, 0, 0, 0, 0)
		p.Funcs = make([]api.IrFunc, 5)
		checkValid(t, "external functions", p, api.OK)
		p.Funcs[n] = wrong
		checkValid(t, fmt.Sprintf("a wrong function %d", n), p, api.ErrGraph)
		p.Funcs[n] = function(block(nil, ret(-1)))
		checkValid(t, fmt.Sprintf("a right function %d", n), p, api.OK)
		p.Args[n] = 1
		if n == 0 {
			p.Entry = 1
		}
		checkValid(t, fmt.Sprintf("function %d has no parameter", n), p, api.ErrGraph)
	}
}

func TestP7_1_NilAndEmpty(t *testing.T) {
	p := straight(-1, call(-1, silent))
	p.Funcs[tested].Blocks[0].Params = []int{}
	p.Funcs[tested].Blocks[0].Ops[0].Args = []int{}
	p.Funcs[tested].Blocks[0].Term.To = []api.Edge{}
	p.Funcs[external].Blocks = []api.IrBlock{}
	checkValid(t, "empty lists", p, api.OK)
	checkValid(t, "no program", api.IrProg{}, api.ErrArg)
	checkValid(t, "empty lists of a program", api.IrProg{Funcs: []api.IrFunc{}, Args: []int{}, Handler: -1, Data: []api.Object{}, Banks: []string{}}, api.ErrArg)
}
