package linear_test

import (
	"math"
	"reflect"
	"slices"
	"testing"

	"jacquard/api"
	"jacquard/linear"
	"jacquard/mach"
	"jacquard/phys"
	"jacquard/sample"
)

// refused holds that nothing is made, with scratch and without, and why.
func refused(t *testing.T, name string, m api.MFunc, k int, want api.Errno) {
	t.Helper()
	for _, scratch := range []bool{false, true} {
		if p, e := linear.Func(m, k, scratch); e != want || !reflect.DeepEqual(p, api.PFunc{}) {
			t.Errorf("%s, k %d, scratch %v: %s %v, not %v", name, k, scratch, brief(p), e, want)
		}
	}
}

// TestArg: code must be such as may be, and registers 4 to 16 (P13.1).
func TestArg(t *testing.T) {
	right, unset := code(1, block(ret(0))), code(1, block(ret(1)))
	for _, k := range []int{math.MinInt, -1, 0, 1, 3, 17, 32, 1 << 32, math.MaxInt} {
		refused(t, "right", right, k, api.ErrArg)
		refused(t, "what was not set", unset, k, api.ErrArg)
	}
	for k := api.MinRegs; k <= api.MaxRegs; k++ {
		hold(t, right, k, false)
		hold(t, right, k, true)
		refused(t, "what was not set", unset, k, api.ErrUse)
	}
	next := sample.Numbers(11)
	for _, x := range sample.MRuns(37, 300) {
		m := sample.CopiedCode(x.M)
		b := &m.Blocks[next(len(m.Blocks))]
		switch next(4) {
		case 0:
			b.End.Op = 9
		case 1:
			b.Ins = append(b.Ins, abc(api.MAdd, 8192, 0, 0, 0))
		case 2:
			b.Ins = append(b.Ins, sample.MSwap(0, 1))
		default:
			m.Params = 5
		}
		refused(t, "what may not be", m, 8, api.ErrArg)
	}
	refused(t, "nothing", api.MFunc{}, 8, api.ErrArg)
}

// TestUse: what is taken must be set on all ways (P13.1).
func TestUse(t *testing.T) {
	for _, x := range []struct {
		name string
		m    api.MFunc
		want api.Errno
	}{
		{"by an instruction", code(1, block(ret(0), imm(api.MAddI, 0, 1, 1))), api.ErrUse},
		{"made by what takes it", code(1, block(ret(1), imm(api.MAddI, 1, 1, 1))), api.ErrUse},
		{"a call's operand", code(1, block(ret(0), call(1, 0, 0, 1))), api.ErrUse},
		{"by an end", code(1, block(bnz(8191, 1, 1)), block(ret(0))), api.ErrUse},
		{"by what returns nothing", code(0, block(ret(-1))), api.OK},
		{"behind the parameters", code(4, block(ret(4))), api.ErrUse},
		{"the last parameter", code(4, block(ret(3))), api.OK},
		{"set on one way", code(1, block(bnz(0, 1, 2)), block(jump(2), li(1, 3)), block(ret(1))), api.ErrUse},
		{"set on both ways", code(1, block(bnz(0, 1, 2)), block(jump(3), li(1, 3)), block(jump(3), li(1, 4)), block(ret(1))), api.OK},
		{"set on the way back", code(1, block(jump(1)), block(bnz(0, 1, 2), abc(api.MAdd, 2, 0, 1, 0), li(1, 3)), block(ret(0))), api.ErrUse},
		{"by a phi, of one way", code(1, block(bnz(0, 1, 2)), block(jump(2)), with(block(ret(1)), phi(1, 0, 0, 1, 2))), api.ErrUse},
		{"by a phi that is not taken", code(1, block(jump(1)), with(block(ret(0)), phi(1, 0, 2))), api.ErrUse},
		{"by a phi of itself", code(1, block(jump(1)), with(block(bnz(0, 1, 2)), phi(1, 0, 0, 1, 1)), block(ret(1))), api.OK},
		{"where it is never come to an end", code(1, block(jump(1)), block(jump(1), imm(api.MAddI, 1, 1, 1))), api.ErrUse},
	} {
		if x.want == api.ErrUse {
			refused(t, x.name, x.m, 8, x.want)
			continue
		}
		for k := api.MinRegs; k <= api.MaxRegs; k++ {
			hold(t, x.m, k, false)
			hold(t, x.m, k, true)
		}
	}
}

// crowd is code where so many ways come to a block that has as many phis: on each way all of them take others.
func crowd(n int) api.MFunc {
	m := code(1, api.MBlock{})
	for r := range n {
		m.Blocks[0].Ins = append(m.Blocks[0].Ins, imm(api.MAddI, 1+r, 0, int32(r%100)))
	}
	var to []int
	last := with(block(ret(0)))
	for r := range n {
		last.Phis = append(last.Phis, api.Phi{Dst: 1 + n + r})
		last.Ins = append(last.Ins, abc(api.MAdd, 0, 0, 1+n+r, 0))
	}
	for b := range 64 {
		to = append(to, 1+b)
		m.Blocks = append(m.Blocks, block(jump(65)))
		for r := range n {
			p := &last.Phis[r]
			p.In = append(p.In, api.In{From: 1 + b, Val: 1 + (r+b*7)%n})
		}
	}
	m.Blocks[0].End = jt(0, to...)
	m.Blocks = append(m.Blocks, last)
	return m
}

// TestMany: it must not be more than may be of a program: on each of the ways nearly all is moved (P13.1).
func TestMany(t *testing.T) {
	long := crowd(1200)
	if !mach.Right(long) {
		t.Fatal(mach.Func(long))
	}
	for k := api.MinRegs; k <= api.MaxRegs; k += 4 {
		refused(t, "long", long, k, api.ErrMany)
	}
	x := sample.MRun{M: crowd(100), In: sample.Args(5)}
	for k := api.MinRegs; k <= api.MaxRegs; k += 4 {
		for _, scratch := range []bool{false, true} {
			p, e := linear.Func(x.M, k, scratch)
			if e != api.OK || !phys.Right(p) || !holdRun(t, x, p) {
				t.Fatalf("k %d: %v", k, e)
			}
		}
	}
	// What was not set comes ahead of that.
	long.Blocks[65].End = ret(8000)
	refused(t, "long, and not set", long, 8, api.ErrUse)
}

// loop is code of a loop of two blocks, each with a phi for each of so many registers, and ways out of it: they live on, and there are critical edges.
func loop(n int) api.MFunc {
	m := code(2, block(jump(1), imm(api.MAddI, 2, 1, 7)), block(bnz(0, 2, 3)), block(bnz(1, 1, 3)), block(ret(3)))
	for r := range n {
		m.Blocks[1].Phis = append(m.Blocks[1].Phis, phi(3+r, 0, 2, 2, 3+r))
		m.Blocks[2].Phis = append(m.Blocks[2].Phis, phi(3+r, 1, 3+(r+1)%n))
	}
	return m
}

// TestSlots: where slots may become too many, it is either told, or what is made may be, and does the same (P13.1, P13.2).
func TestSlots(t *testing.T) {
	for _, n := range []int{5000, 5450, 5455, 5460, 5465, 5470, 5500} {
		x := sample.MRun{M: loop(n), In: api.Input{Args: row(0, 2), Steps: 1000}}
		for k := api.MinRegs; k <= api.MaxRegs; k += 6 {
			p, e := linear.Func(x.M, k, k%4 == 0)
			switch {
			case e == api.ErrMany && reflect.DeepEqual(p, api.PFunc{}):
			case e != api.OK || !phys.Right(p) || !holdRun(t, x, p):
				t.Fatalf("%d registers, k %d: %v, %s", n, k, e, brief(p))
			}
		}
	}
}

// greatest is code of all blocks, and all registers, that there may be, which nearly all live through all blocks.
func greatest() api.MFunc {
	m := code(4, make([]api.MBlock, api.MaxBlocks)...)
	for r := 4; r < api.MaxValues; r++ {
		m.Blocks[0].Ins = append(m.Blocks[0].Ins, imm(api.MAddI, r, r%4, int32(r%100)))
	}
	m.Blocks[0].End = jump(1)
	for b := 1; b < api.MaxBlocks-1; b++ {
		m.Blocks[b] = block(bnz(b, 1+b, api.MaxBlocks-1))
	}
	last := &m.Blocks[api.MaxBlocks-1]
	*last = block(ret(0))
	for r := 1; len(last.Ins) < 4*api.MaxIns-api.MaxBlocks-(api.MaxValues-4); r++ {
		last.Ins = append(last.Ins, abc(api.MAdd, 0, 0, r, 0))
	}
	return m
}

// TestGreatest: the greatest code gets registers, too, and does the same (P13.2).
func TestGreatest(t *testing.T) {
	x := sample.MRun{M: greatest(), In: api.Input{Args: row(1, -2, 3, 4), Steps: 20000}}
	if e, b, place := mach.Func(x.M); e != api.OK {
		t.Fatal(e, b, place)
	}
	for _, k := range []int{4, 5, 16} {
		for _, scratch := range []bool{false, true} {
			p, e := linear.Func(x.M, k, scratch)
			if e != api.OK || !phys.Right(p) || !holdRun(t, x, p) {
				t.Fatalf("k %d: %v", k, e)
			}
		}
	}
	x.M.Blocks[1].Ins = append(x.M.Blocks[1].Ins, li(0, 1))
	refused(t, "one too many", x.M, 8, api.ErrArg)
}

// TestRestless: of programs that may not be it is told, too, how much was laid, and how many slots they name (P13.4).
func TestRestless(t *testing.T) {
	for _, n := range []int{math.MinInt, -1, 0, 1, 16385, math.MaxInt} {
		if got := linear.Spilt(api.PFunc{Slots: n}); got != n {
			t.Errorf("%d slots: %d", n, got)
		}
	}
	froms := []int{math.MinInt, -2, -1, 0, 1, 70000, math.MaxInt}
	for below := range 5 {
		var p api.PFunc
		for n, from := range slices.Concat(froms, froms[:below]) {
			b := api.PBlock{Ins: []api.Placed{{From: from}}}
			if n%2 == 0 {
				b.Ins[0].I.Op = 99
			}
			p.Blocks = append(p.Blocks, b, api.PBlock{})
		}
		if got, want := linear.Laid(p), 3+min(below, 3); got != want {
			t.Errorf("%d of %v, not %d", got, p, want)
		}
	}
	if linear.Laid(api.PFunc{}) != 0 || linear.Spilt(api.PFunc{}) != 0 {
		t.Error("something of nothing")
	}
}
