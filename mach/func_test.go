package mach_test

import (
	"math"
	"slices"
	"testing"

	"jacquard/api"
	"jacquard/mach"
	"jacquard/sample"
)

// Short forms for what is written out.
var (
	ret, trap, jump, bnz, end, jt = sample.ERet, sample.ETrap, sample.EJ, sample.EBnz, sample.ETwo, sample.EJt
	li, abc, imm, call            = sample.MLi, sample.MThree, sample.MImm, sample.MCall
	block, code, phi, with        = sample.MBlock, sample.MFunc, sample.Phi, sample.With
)

// told is what the program tells of machine code.
func told(m api.MFunc) fault {
	e, block, place := mach.Func(m)
	return fault{e, block, place}
}

// hold holds what is told of machine code against what is written out, and what is found a second time.
func hold(t *testing.T, name string, m api.MFunc, want fault) {
	t.Helper()
	if got := told(m); got != want {
		t.Errorf("%s: %v, not %v", name, got, want)
	}
	if got := firstWrong(m); got != want {
		t.Errorf("%s: by the words %v, not %v", name, got, want)
	}
	if mach.Right(m) != (want.e == api.OK) {
		t.Errorf("%s: Right is not of that", name)
	}
}

// TestSpoilt: of code of all kinds, as it may be and changed in any way, the first fault is told (P7.2).
func TestSpoilt(t *testing.T) {
	next, seen := sample.Numbers(77), map[api.Errno]int{}
	for _, x := range sample.MRuns(5, 6000) {
		hold(t, "as it may be", x.M, fault{})
		for range 6 {
			m := sample.CopiedCode(x.M)
			for range 1 + next(2) {
				spoilt(&m, next)
			}
			want := firstWrong(m)
			seen[want.e]++
			if got := told(m); got != want || mach.Right(m) != (want.e == api.OK) {
				t.Fatalf("%v: %v, not %v", m, got, want)
			}
		}
	}
	for _, e := range []api.Errno{api.OK, api.ErrArg, api.ErrBlock, api.ErrReach, api.ErrPhi, api.ErrIns, api.ErrReg, api.ErrTwice, api.ErrImm} {
		if seen[e] < 300 {
			t.Errorf("only %d of %v", seen[e], e)
		}
	}
}

// spoilt changes something of machine code.
func spoilt(m *api.MFunc, next func(int) int) {
	if len(m.Blocks) == 0 {
		return
	}
	x := &m.Blocks[next(len(m.Blocks))]
	odd := sample.One(next, math.MinInt, -9000, -1, 0, 1, 8191, 8192, math.MaxInt)
	switch next(8) {
	case 0:
		m.Params = sample.One(next, -1, 0, 4, 5, 3)
	case 1:
		switch next(3) {
		case 0:
			m.Blocks = append(m.Blocks, block(ret(-1)))
		case 1:
			m.Blocks = m.Blocks[:len(m.Blocks)-1]
		default:
			m.Blocks = m.Blocks[:1+next(len(m.Blocks))]
		}
	case 2, 3:
		spoiltEnd(&x.End, next, odd)
	case 4, 5:
		spoiltPhis(x, next, odd)
	default:
		if len(x.Ins) > 0 {
			spoiltIns(&x.Ins[next(len(x.Ins))], next, odd)
		}
	}
}

// spoiltEnd changes something of an end.
func spoiltEnd(e *api.End, next func(int) int, odd int) {
	switch next(6) {
	case 0:
		e.Op = next(11) - 1
	case 1:
		e.A = odd
	case 2:
		e.B = odd
	case 3:
		e.To = append(e.To, 1+next(3))
	case 4:
		e.To = e.To[:len(e.To)-min(len(e.To), 1)]
	default:
		if len(e.To) > 0 {
			e.To[next(len(e.To))] = sample.One(next, odd, 1, 2, 3)
		}
	}
}

// spoiltPhis changes something of a block's phis, or puts one in.
func spoiltPhis(x *api.MBlock, next func(int) int, odd int) {
	if len(x.Phis) == 0 {
		x.Phis = []api.Phi{phi(next(4), next(3), next(4))}
		return
	}
	p := &x.Phis[next(len(x.Phis))]
	if len(p.In) == 0 {
		p.In = []api.In{{From: next(3), Val: odd}}
		return
	}
	switch k := next(len(p.In)); next(6) {
	case 0:
		p.Dst = odd
	case 1:
		p.Dst = x.Phis[next(len(x.Phis))].Dst
	case 2:
		p.In[k].Val = odd
	case 3:
		p.In[k].From = sample.One(next, odd, 2, 3)
	case 4:
		p.In = slices.Delete(p.In, k, k+1)
		p.In = append(p.In, make([]api.In, next(2))...)
	default:
		p.In[0], p.In[k] = p.In[k], p.In[0]
	}
}

// spoiltIns changes something of an instruction.
func spoiltIns(i *api.Mach, next func(int) int, odd int) {
	field := sample.One(next, &i.D, &i.E, &i.A, &i.B, &i.C)
	switch next(8) {
	case 0:
		i.Op = next(35) - 1
	case 1:
		i.Op, i.Args = api.MCall, append(i.Args, 1, odd)
	case 2:
		*i = api.Mach{Op: api.MMulw, D: i.D, E: i.D, A: i.A, B: i.B}
	case 3, 4:
		i.Imm = sample.One[int32](next, math.MinInt32, -32769, -32768, -129, -128, -1, 0, 31, 32, 127, 128, 255, 256, 32767, 32768, math.MaxInt32)
	default:
		*field = odd
	}
}

// TestWhole: what is wrong with the whole (P7.2, point 1).
func TestWhole(t *testing.T) {
	fine := block(ret(-1))
	for params, want := range map[int]api.Errno{math.MinInt: api.ErrArg, -1: api.ErrArg, 0: api.OK, 1: api.OK, 4: api.OK, 5: api.ErrArg, math.MaxInt: api.ErrArg} {
		hold(t, "parameters", code(params, fine), fault{e: want})
	}
	hold(t, "nothing", api.MFunc{}, fault{e: api.ErrBlock})
	hold(t, "no blocks", api.MFunc{Params: 4, Blocks: []api.MBlock{}}, fault{e: api.ErrBlock})
	hold(t, "parameters are ahead of blocks", api.MFunc{Params: 5}, fault{e: api.ErrArg})
	hold(t, "parameters are ahead of how many blocks", api.MFunc{Params: 5, Blocks: make([]api.MBlock, 513)}, fault{e: api.ErrArg})
	hold(t, "too many are ahead of an instruction", api.MFunc{Blocks: make([]api.MBlock, 513)}, fault{e: api.ErrMany})
	hold(t, "a wrong end", code(0, block(api.End{})), fault{e: api.ErrIns})
	for n, want := range map[int]fault{1: {}, 2: {}, 511: {}, 512: {}, 513: {e: api.ErrMany}, 1 << 17: {e: api.ErrMany}} {
		m := code(0, slices.Repeat([]api.MBlock{fine}, n)...)
		for b := range n - 1 {
			m.Blocks[b].End = jump(b + 1)
		}
		hold(t, "blocks", m, want)
	}
}

// TestMany: phis, instructions and ends, together (P7.2, point 1).
func TestMany(t *testing.T) {
	filled := func(phis, ins int) api.MFunc {
		m := code(0, block(jump(1)), block(ret(-1)))
		for n := range phis {
			m.Blocks[1].Phis = append(m.Blocks[1].Phis, phi(n, 0, 8191-n))
		}
		m.Blocks[0].Ins = slices.Repeat([]api.Mach{li(8191, 32767)}, ins)
		return m
	}
	hold(t, "16384 in all", filled(0, 16382), fault{})
	hold(t, "16385 in all", filled(0, 16383), fault{e: api.ErrMany})
	hold(t, "16384 in all, by phis", filled(8192, 8190), fault{})
	hold(t, "16385 in all, by phis", filled(8192, 8191), fault{e: api.ErrMany})
	hold(t, "a phi too many for the registers", filled(8193, 0), fault{api.ErrReg, 1, -8193})
	wrong := filled(0, 16383)
	wrong.Blocks[0].Ins[0].Op = 0
	hold(t, "too many are ahead of an instruction", wrong, fault{e: api.ErrMany})
}

// TestOps: which there are, of instructions and of ends, and how many To an end has (P7.2, point 2).
func TestOps(t *testing.T) {
	for op := -3; op <= 40; op++ {
		want := fault{api.ErrIns, 0, 1}
		if op == 1 || 3 <= op && op <= 29 {
			want = fault{}
		}
		hold(t, "an instruction", code(0, block(ret(1), li(1, 1), api.Mach{Op: op, D: 1, E: 2})), want)
	}
	for args := range 8 {
		want := fault{}
		if args > 4 {
			want = fault{api.ErrIns, 0, 0}
		}
		hold(t, "a call", code(0, block(ret(1), call(1, 7, make([]int, args)...))), want)
		hold(t, "no call", code(0, block(ret(1), api.Mach{Op: api.MLiw, D: 1, Args: slices.Repeat([]int{-1}, args)})), fault{})
	}
	bounds := map[int][2]int{1: {1, 1}, 2: {2, 2}, 3: {2, 2}, 4: {2, 2}, 5: {2, 2}, 6: {2, 65}, 7: {0, 0}, 8: {0, 0}}
	for op := -2; op <= 11; op++ {
		for _, count := range []int{0, 1, 2, 3, 4, 64, 65, 66, 1 << 16} {
			want, m := fault{api.ErrIns, 0, 0}, code(0, block(api.End{Op: op, To: slices.Repeat([]int{1}, count)}), block(ret(0)))
			if b, ok := bounds[op]; ok && b[0] <= count && count <= b[1] {
				want = fault{}
				if count == 0 {
					want = fault{api.ErrReach, 1, 0}
				}
			}
			hold(t, "an end", m, want)
		}
	}
	for _, op := range []int{math.MinInt, math.MaxInt, 1<<32 + 1} {
		hold(t, "a far instruction", code(0, block(ret(1), api.Mach{Op: op})), fault{api.ErrIns, 0, 0})
		hold(t, "a far end", code(0, block(api.End{Op: op})), fault{api.ErrIns, 0, 0})
	}
}

// TestNumbers: each register that plays a part is from 0 to 8191; what plays no part is anything (P7.2, point 2).
func TestNumbers(t *testing.T) {
	for op := 1; op <= 29; op++ {
		if op == api.MSwap {
			continue
		}
		for field := range 7 {
			for _, r := range []int{math.MinInt, -8191, -1, 0, 8191, 8192, 1 << 32, math.MaxInt} {
				i := api.Mach{Op: op, D: 1, E: 2, A: 3, B: 4, C: 5, Args: []int{6, 7}}
				*[]*int{&i.D, &i.E, &i.A, &i.B, &i.C, &i.Args[0], &i.Args[1]}[field] = r
				makes, takes := named(i)
				want := fault{}
				if bad := r < 0 || r > 8191; bad && slices.Contains(append(slices.Clone(makes), takes...), r) {
					want = fault{api.ErrReg, 0, 0}
				}
				hold(t, "an instruction's register", code(0, block(ret(-1), i)), want)
			}
		}
	}
	for _, r := range []int{math.MinInt, -8191, -1, 0, 8191, 8192, 1 << 32, math.MaxInt} {
		bad := func(so bool) fault {
			if so {
				return fault{api.ErrReg, 0, 0}
			}
			return fault{}
		}
		below, above, none := r < 0, r > 8191, block(ret(-1))
		for op := api.EBnz; op <= api.EJt; op++ {
			hold(t, "A of an end", code(0, block(end(op, r, 0, 1, 1)), none), bad(below || above))
			hold(t, "B of an end", code(0, block(end(op, 0, r, 1, 1)), none), bad((below || above) && api.EBeq <= op && op <= api.EBltu))
		}
		hold(t, "a jump has no registers", code(0, block(api.End{Op: api.EJ, A: r, B: r, To: []int{1}}), none), fault{})
		hold(t, "a trap has no registers", code(0, block(api.End{Op: api.ETrap, A: r, B: r})), fault{})
		hold(t, "a ret has none below 0", code(0, block(api.End{Op: api.ERet, A: r, B: r})), bad(above))
		want := bad(below || above)
		if want.e != api.OK {
			want = fault{want.e, 1, -2}
		}
		hold(t, "a phi's Dst", code(0, block(jump(1)), with(none, phi(7, 0, 7), phi(r, 0, 7))), want)
		hold(t, "a phi's Val", code(0, block(jump(1)), with(none, phi(7, 0, 7), phi(6, 0, r))), want)
	}
}

// TestImm: each number at which one begins, or ends, to fit (P7.2, point 2).
func TestImm(t *testing.T) {
	bounds := map[int][2]int32{
		api.MLi: {-32768, 32767}, api.MAddI: {-128, 127}, api.MAndI: {-128, 127},
		api.MShlI: {0, 31}, api.MShrI: {0, 31}, api.MSarI: {0, 31}, api.MLd: {0, 255}, api.MSt: {0, 255},
	}
	for op := 1; op <= 29; op++ {
		if op == api.MSwap {
			continue
		}
		for _, n := range []int32{math.MinInt32, -65536, -32769, -32768, -256, -129, -128, -32, -1, 0, 1, 31, 32, 127, 128, 255, 256, 32767, 32768, 65536, math.MaxInt32} {
			want := fault{}
			if b, ok := bounds[op]; ok && (n < b[0] || n > b[1]) {
				want = fault{api.ErrImm, 0, 0}
			}
			hold(t, "a number", code(0, block(ret(-1), api.Mach{Op: op, D: 1, E: 2, Imm: n})), want)
		}
	}
	hold(t, "example: 128", code(1, block(ret(1), imm(api.MAddI, 1, 0, 128))), fault{api.ErrImm, 0, 0})
}
