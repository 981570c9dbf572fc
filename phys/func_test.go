package phys_test

import (
	"math"
	"slices"
	"testing"

	"jacquard/api"
	"jacquard/mach"
	"jacquard/phys"
	"jacquard/sample"
)

// Short forms for what is written out.
var (
	ret, trap, jump, bnz, end, jt = sample.ERet, sample.ETrap, sample.EJ, sample.EBnz, sample.ETwo, sample.EJt
	li, abc, imm, swap, sld, sst  = sample.MLi, sample.MThree, sample.MImm, sample.MSwap, sample.MSld, sample.MSst
	block, program                = sample.PBlock, sample.PFunc
)

// call is one of its first operands.
func call(callee int32, args int) api.Mach {
	return api.Mach{Op: api.MCall, Imm: callee, Args: []int{0, 1, 2, 3}[:args]}
}

// mulw is a product of two halves.
func mulw(a, b int) api.Mach { return api.Mach{Op: api.MMulw, E: 1, A: a, B: b} }

// row is numbers.
func row(l ...int) []int { return l }

// far are numbers that are far from all that there are.
var far = row(math.MinInt, -1<<32, -17, -2, -1, 1<<32, 1<<32+1, math.MaxInt)

// told is what the program tells of a program.
func told(p api.PFunc) fault {
	e, block, place := phys.Func(p)
	return fault{e, block, place}
}

// hold holds what is told of a program against what is written out, and what is found a second time.
func hold(t *testing.T, name string, p api.PFunc, want fault) {
	t.Helper()
	if got := told(p); got != want {
		t.Errorf("%s: %v, not %v", name, got, want)
	}
	if got := firstWrong(p); got != want {
		t.Errorf("%s: by the words %v, not %v", name, got, want)
	}
	if phys.Right(p) != (want.e == api.OK) {
		t.Errorf("%s: Right is not of that", name)
	}
}

// holdIns holds what is told of an instruction against what is written out, by itself, and, if there may be such, in a program.
func holdIns(t *testing.T, name string, i api.Mach, k, slots int, want api.Errno) {
	t.Helper()
	if got := phys.Ins(i, k, slots); got != want {
		t.Errorf("%s: %v, k %d, slots %d: %v, not %v", name, i, k, slots, got, want)
	}
	if got := wrongIns(i, k, slots); got != want {
		t.Errorf("%s: %v, k %d, slots %d: by the words %v, not %v", name, i, k, slots, got, want)
	}
	if 4 <= k && k <= 16 && 0 <= slots && slots <= 16384 {
		in := fault{want, 1, 1}
		if want == api.OK {
			in = fault{}
		}
		hold(t, name, program(0, k, slots, block(ret(-1)), block(ret(0), li(0, 1), i)), in)
	}
}

// holdEnd holds what is told of an end likewise.
func holdEnd(t *testing.T, name string, e api.End, k, blocks int, want api.Errno) {
	t.Helper()
	if got := phys.End(e, k, blocks); got != want {
		t.Errorf("%s: %v, k %d, blocks %d: %v, not %v", name, e, k, blocks, got, want)
	}
	if got := wrongEnd(e, k, blocks); got != want {
		t.Errorf("%s: %v, k %d, blocks %d: by the words %v, not %v", name, e, k, blocks, got, want)
	}
	if 4 <= k && k <= 16 && 1 <= blocks && blocks <= 512 {
		p := program(0, k, 0, slices.Repeat([]api.PBlock{block(ret(-1))}, blocks)...)
		p.Blocks[blocks-1] = block(e, li(0, 1))
		in := fault{want, blocks - 1, 1}
		if want == api.OK {
			in = fault{}
		}
		hold(t, name, p, in)
	}
}

// TestSpoilt: of programs of all kinds, as they may be and changed in any way, the first fault is told (P12.3).
func TestSpoilt(t *testing.T) {
	next, seen := sample.Numbers(77), map[api.Errno]int{}
	for _, x := range sample.PRuns(5, 6000) {
		hold(t, "as it may be", x.P, fault{})
		for range 6 {
			p := sample.CopiedProgram(x.P)
			for range 1 + next(2) {
				spoilt(&p, next)
			}
			want := firstWrong(p)
			seen[want.e]++
			if got := told(p); got != want || phys.Right(p) != (want.e == api.OK) {
				t.Fatalf("%v: %v, not %v", p, got, want)
			}
		}
	}
	for _, e := range []api.Errno{api.OK, api.ErrArg, api.ErrBlock, api.ErrIns, api.ErrReg, api.ErrImm, api.ErrSlot} {
		if seen[e] < 300 {
			t.Errorf("only %d of %v", seen[e], e)
		}
	}
}

// spoilt changes something of a program.
func spoilt(p *api.PFunc, next func(int) int) {
	if len(p.Blocks) == 0 {
		return
	}
	x := &p.Blocks[next(len(p.Blocks))]
	odd := sample.One(next, math.MinInt, -1, 0, 1, 3, 4, 7, 15, 16, 17, math.MaxInt)
	switch next(8) {
	case 0:
		switch next(3) {
		case 0:
			p.Params = odd
		case 1:
			p.K = odd
		default:
			p.Slots = sample.One(next, math.MinInt, -1, 0, 1, 2, 16383, 16384, 16385)
		}
	case 1:
		p.Blocks = p.Blocks[:next(len(p.Blocks)+1)]
	case 2, 3:
		spoiltEnd(&x.End, next, odd)
	default:
		if len(x.Ins) > 0 {
			spoiltIns(&x.Ins[next(len(x.Ins))].I, next, odd)
		}
	}
}

// spoiltEnd changes something of an end.
func spoiltEnd(e *api.End, next func(int) int, odd int) {
	switch next(6) {
	case 0:
		e.Op = next(11) - 1
	case 1:
		e.A = odd
	case 2:
		e.B = odd
	case 3:
		e.To = append(e.To, 1+next(3))
	case 4:
		e.To = e.To[:len(e.To)-min(len(e.To), 1)]
	default:
		if len(e.To) > 0 {
			e.To[next(len(e.To))] = odd
		}
	}
}

// spoiltIns changes something of an instruction.
func spoiltIns(i *api.Mach, next func(int) int, odd int) {
	switch next(8) {
	case 0:
		i.Op = next(35) - 1
	case 1:
		*i = call(7, next(5))
		i.D = sample.One(next, 0, 0, 0, 1, -1)
		if next(2) == 0 {
			i.Args = append(sample.Own(i.Args), odd)
		}
	case 2:
		*i = mulw(next(3), odd)
		i.E = sample.One(next, 1, 1, 0, 2)
	case 3, 4:
		i.Imm = sample.One[int32](next, math.MinInt32, -32769, -32768, -129, -128, -1, 0, 1, 2, 31, 32, 127, 128, 255, 256, 16383, 16384, 32767, 32768, math.MaxInt32)
	default:
		*sample.One(next, &i.D, &i.E, &i.A, &i.B, &i.C) = odd
	}
}

// TestWhole: what is wrong with the whole (P12.3).
func TestWhole(t *testing.T) {
	fine := block(ret(-1))
	tried := func(name string, l map[int]api.Errno, with func(n int) api.PFunc) {
		t.Helper()
		for n, want := range l {
			hold(t, name, with(n), fault{e: want})
		}
		for _, n := range far {
			hold(t, name, with(n), fault{e: api.ErrArg})
		}
	}
	tried("parameters", map[int]api.Errno{0: api.OK, 1: api.OK, 4: api.OK, 5: api.ErrArg}, func(n int) api.PFunc { return program(n, 4, 0, fine) })
	tried("registers", map[int]api.Errno{0: api.ErrArg, 3: api.ErrArg, 4: api.OK, 5: api.OK, 15: api.OK, 16: api.OK, 17: api.ErrArg}, func(n int) api.PFunc { return program(4, n, 0, fine) })
	tried("slots", map[int]api.Errno{0: api.OK, 1: api.OK, 16383: api.OK, 16384: api.OK, 16385: api.ErrArg}, func(n int) api.PFunc { return program(4, 16, n, fine) })
	hold(t, "nothing", api.PFunc{}, fault{e: api.ErrArg})
	hold(t, "no blocks", program(0, 4, 0), fault{e: api.ErrBlock})
	hold(t, "a row of no blocks", api.PFunc{Params: 4, K: 16, Slots: 16384, Blocks: []api.PBlock{}}, fault{e: api.ErrBlock})
	for _, wrong := range []api.PFunc{program(5, 4, 0), program(0, 3, 0), program(0, 4, -1), program(0, 4, 16385)} {
		hold(t, "numbers are ahead of blocks", wrong, fault{e: api.ErrArg})
		wrong.Blocks = make([]api.PBlock, 513)
		hold(t, "numbers are ahead of how many blocks", wrong, fault{e: api.ErrArg})
	}
	hold(t, "too many are ahead of an instruction", program(0, 4, 0, make([]api.PBlock, 513)...), fault{e: api.ErrMany})
	for n, want := range map[int]api.Errno{1: api.OK, 2: api.OK, 511: api.OK, 512: api.OK, 513: api.ErrMany, 1 << 17: api.ErrMany} {
		hold(t, "blocks", program(0, 4, 0, slices.Repeat([]api.PBlock{fine}, n)...), fault{e: want})
	}
}

// TestMany: instructions and ends, together (P12.3).
func TestMany(t *testing.T) {
	filled := func(l ...int) api.PFunc {
		p := program(0, 4, 0)
		for _, ins := range l {
			p.Blocks = append(p.Blocks, block(ret(-1), slices.Repeat([]api.Mach{li(3, 32767)}, ins)...))
		}
		return p
	}
	hold(t, "65536 in all", filled(65535), fault{})
	hold(t, "65537 in all", filled(65536), fault{e: api.ErrMany})
	hold(t, "65536 in all, in three blocks", filled(30000, 0, 35533), fault{})
	hold(t, "65537 in all, in three blocks", filled(30000, 1, 35533), fault{e: api.ErrMany})
	wrong := filled(65536)
	wrong.Blocks[0].Ins[0].I.Op = 0
	hold(t, "too many are ahead of an instruction", wrong, fault{e: api.ErrMany})
	last := filled(100, 65434)
	last.Blocks[1].Ins[65433].I.D = 4
	hold(t, "the last one", last, fault{api.ErrReg, 1, 65433})
	last.Blocks[1].Ins[65433].I.D, last.Blocks[1].End.A = 3, 1
	hold(t, "the last end", last, fault{api.ErrReg, 1, 65434})
}

// TestOps: which there are, and what must stand in calls and wide products (P12.1).
func TestOps(t *testing.T) {
	for op := -3; op <= 40; op++ {
		want := api.OK
		if op < 1 || op > 31 {
			want = api.ErrIns
		}
		holdIns(t, "an instruction", api.Mach{Op: op, E: 1}, 4, 1, want)
	}
	for _, op := range append(row(128, 1<<32+5), far...) {
		holdIns(t, "a far instruction", api.Mach{Op: op}, 4, 1, api.ErrIns)
	}
	for args := range 5 {
		holdIns(t, "a call", call(7, args), 4, 0, api.OK)
		holdIns(t, "a call of no fields", api.Mach{Op: api.MCall, E: -1, A: 99, B: math.MinInt, C: math.MaxInt, Imm: math.MinInt32, Args: call(7, args).Args}, 4, 0, api.OK)
		for _, d := range append(row(1, 3, 4), far...) {
			i := call(7, args)
			i.D = d
			holdIns(t, "a call's D", i, 4, 0, api.ErrIns)
		}
		for place := range args {
			for _, r := range append(row(0, 1, 2, 3, 4, 15, 16), far...) {
				i := api.Mach{Op: api.MCall, Args: row(0, 1, 2, 3)[:args]}
				if i.Args[place] = r; r != place {
					holdIns(t, "a call's operand", i, 4, 0, api.ErrIns)
				}
			}
		}
		holdIns(t, "no call", api.Mach{Op: api.MLiw, Args: slices.Repeat(row(-1), args)}, 4, 0, api.OK)
	}
	for _, args := range [][]int{row(1), row(1, 0), row(0, 0), row(0, 2), row(0, 1, 3), row(0, 1, 2, 3, 4), row(0, 1, 2, 3, 0), make([]int, 1<<20)} {
		holdIns(t, "a call of others", api.Mach{Op: api.MCall, Args: args}, 16, 0, api.ErrIns)
	}
	for d := -2; d < 5; d++ {
		for e := -2; e < 5; e++ {
			want := api.ErrIns
			if d == 0 && e == 1 {
				want = api.OK
			}
			holdIns(t, "a wide product", api.Mach{Op: api.MMulw, D: d, E: e, A: 3, B: 2}, 4, 0, want)
		}
	}
}

// TestEndOps: which there are, and how many To each has (P12.2).
func TestEndOps(t *testing.T) {
	bounds := map[int][2]int{1: {1, 1}, 2: {2, 2}, 3: {2, 2}, 4: {2, 2}, 5: {2, 2}, 6: {2, 65}, 7: {0, 0}, 8: {0, 0}}
	for op := -2; op <= 52; op++ {
		for _, count := range row(0, 1, 2, 3, 4, 63, 64, 65, 66, 1<<16) {
			want := api.ErrIns
			if b, ok := bounds[op]; ok && b[0] <= count && count <= b[1] {
				want = api.OK
			}
			holdEnd(t, "an end", api.End{Op: op, To: slices.Repeat(row(1), count)}, 4, 2, want)
		}
	}
	for _, op := range far {
		holdEnd(t, "a far end", api.End{Op: op}, 4, 2, api.ErrIns)
	}
}

// TestRegisters: each register that plays a part is one of the first k; what plays no part is anything (P12.1).
func TestRegisters(t *testing.T) {
	for op := 1; op <= 31; op++ {
		for k := 4; k <= 16; k++ {
			for field := range 5 {
				for _, r := range append(row(0, 1, 3, k-1, k, k+1, 15, 16, 17, 8191), far...) {
					i := api.Mach{Op: op, D: 0, E: 1, A: 2, B: 3, C: 1}
					*[]*int{&i.D, &i.E, &i.A, &i.B, &i.C}[field] = r
					i.Imm = 1
					makes, takes := sample.Named(i)
					fixed := op == api.MCall && field == 0 && r != 0 || op == api.MMulw && (field == 0 && r != 0 || field == 1 && r != 1)
					want := api.OK
					if fixed {
						want = api.ErrIns
					} else if bad := r < 0 || r >= k; bad && slices.Contains(slices.Concat(makes, takes), r) {
						want = api.ErrReg
					}
					holdIns(t, "a register", i, k, 2, want)
				}
			}
		}
	}
}

// TestFewRegisters: with fewer registers than a program has, or with more, it is by that number, too (P12.1, P12.2, R2).
func TestFewRegisters(t *testing.T) {
	for _, x := range []struct {
		i     api.Mach
		needs int // registers
	}{
		{li(0, 1), 1}, {li(16, 1), 17}, {li(99, 1), 100}, {abc(api.MAdd, 0, 1, 2, 9), 3}, {abc(api.MMadd, 0, 1, 2, 9), 10}, {swap(2, 0), 3}, {swap(0, 5), 6},
		{call(1, 0), 1}, {call(1, 1), 1}, {call(1, 2), 2}, {call(1, 3), 3}, {call(1, 4), 4}, {mulw(0, 0), 2}, {mulw(0, 2), 3}, {sld(0, 0), 1}, {sst(3, 0), 4},
		{abc(api.MStX, -9, 0, 20, 1), 21}, {imm(api.MLd, 30, 2, 5), 31},
	} {
		for k := -2; k < 110; k++ {
			want := api.OK
			if k < x.needs {
				want = api.ErrReg
			}
			holdIns(t, "few registers", x.i, k, 1, want)
		}
		holdIns(t, "none", x.i, math.MinInt, 1, api.ErrReg)
		holdIns(t, "all", x.i, math.MaxInt, 1, api.OK)
	}
	holdIns(t, "what is no register of any", li(math.MaxInt, 1), math.MaxInt, 1, api.ErrReg)
	holdIns(t, "a great one", li(math.MaxInt-1, 1), math.MaxInt, 1, api.OK)
	for _, k := range row(math.MinInt, -1, 0) {
		holdEnd(t, "no registers", ret(0), k, 1, api.ErrReg)
		holdEnd(t, "no registers, and none needed", ret(-1), k, 1, api.OK)
		holdEnd(t, "no registers, and a jump", jump(1), k, 2, api.OK)
		holdEnd(t, "no registers, and a trap", trap(1), k, 2, api.OK)
		holdEnd(t, "no registers, and a branch", bnz(0, 1, 1), k, 2, api.ErrReg)
	}
	holdEnd(t, "many registers", bnz(99, 1, 1), 100, 2, api.OK)
	holdEnd(t, "many registers, less one", bnz(99, 1, 1), 99, 2, api.ErrReg)
	holdEnd(t, "many registers, and a ret", ret(1), 100, 2, api.ErrReg)
}

// TestSlots: the number of a slot is one of those that there are; of all others slots play no part (P12.1).
func TestSlots(t *testing.T) {
	for _, slots := range append(row(0, 1, 2, 100, 16383, 16384, 16385, 1<<31, 1<<33), far...) {
		for _, n := range []int32{math.MinInt32, -16384, -1, 0, 1, 2, 99, 100, 16382, 16383, 16384, 32767, 32768, math.MaxInt32} {
			want := api.OK
			if n < 0 || int(n) >= slots {
				want = api.ErrSlot
			}
			holdIns(t, "a load", sld(3, n), 4, slots, want)
			holdIns(t, "a store", sst(3, n), 4, slots, want)
			holdIns(t, "a number", api.Mach{Op: api.MLiw, Imm: n}, 4, slots, api.OK)
			holdIns(t, "a callee", call(n, 4), 4, slots, api.OK)
		}
	}
}

// TestImm: each number at which one begins, or ends, to fit: it is layer 7's (P12.1).
func TestImm(t *testing.T) {
	bounds := map[int][2]int32{
		api.MLi: {-32768, 32767}, api.MAddI: {-128, 127}, api.MAndI: {-128, 127},
		api.MShlI: {0, 31}, api.MShrI: {0, 31}, api.MSarI: {0, 31}, api.MLd: {0, 255}, api.MSt: {0, 255},
	}
	for op := 1; op <= 29; op++ {
		for _, n := range []int32{math.MinInt32, -65536, -32769, -32768, -256, -129, -128, -32, -1, 0, 1, 31, 32, 127, 128, 255, 256, 32767, 32768, 65535, 65536, math.MaxInt32} {
			want := api.OK
			if b, ok := bounds[op]; ok && (n < b[0] || n > b[1]) {
				want = api.ErrImm
			}
			i := api.Mach{Op: op, E: 1, Imm: n}
			holdIns(t, "a number", i, 4, 0, want)
			m := api.MFunc{Blocks: []api.MBlock{{Ins: []api.Mach{i}, End: ret(-1)}}}
			if e, _, _ := mach.Func(m); op != api.MSwap && e != want {
				t.Errorf("%v: %v, but of layer 7 %v", i, want, e)
			}
		}
	}
}

// TestEndRegisters: each register that an end needs is one of the first k; a ret has none but 0 (P12.2).
func TestEndRegisters(t *testing.T) {
	bad := func(so bool) api.Errno {
		if so {
			return api.ErrReg
		}
		return api.OK
	}
	for k := 4; k <= 16; k++ {
		for _, r := range append(row(0, 1, 3, k-1, k, 15, 16, 8191), far...) {
			outside := r < 0 || r >= k
			for op := api.EBnz; op <= api.EJt; op++ {
				holdEnd(t, "A", end(op, r, 0, 1, 1), k, 2, bad(outside))
				holdEnd(t, "B", end(op, 0, r, 1, 1), k, 2, bad(outside && api.EBeq <= op && op <= api.EBltu))
			}
			holdEnd(t, "a jump has none", api.End{Op: api.EJ, A: r, B: r, To: row(1), Imm: 5}, k, 2, api.OK)
			holdEnd(t, "a trap has none", api.End{Op: api.ETrap, A: r, B: r, Imm: 5}, k, 2, api.OK)
			holdEnd(t, "a ret", api.End{Op: api.ERet, A: r, B: r, Imm: 5}, k, 2, bad(r > 0))
		}
	}
}

// TestTo: where control goes on to is a block, but not block 0 (P12.2).
func TestTo(t *testing.T) {
	for _, blocks := range append(row(0, 1, 2, 3, 511, 512, 513, 1<<20), far...) {
		for _, to := range append(row(0, 1, 2, 3, 510, 511, 512, 513), far...) {
			want := api.OK
			if to < 1 || to >= blocks {
				want = api.ErrBlock
			}
			holdEnd(t, "a jump", jump(to), 4, blocks, want)
			if blocks > 1 {
				holdEnd(t, "the first", bnz(0, to, 1), 4, blocks, want)
				holdEnd(t, "the second", end(api.EBlt, 0, 3, 1, to), 4, blocks, want)
				holdEnd(t, "the last of a table", jt(3, append(slices.Repeat(row(1), 64), to)...), 4, blocks, want)
			}
		}
	}
}
