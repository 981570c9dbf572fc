package mach_test

import (
	"testing"

	"jacquard/api"
)

// diamond is 0, on to 1 and 2, which go on to 3.
func diamond(four ...api.MBlock) api.MFunc {
	ends := []api.End{bnz(0, 1, 2), jump(3), jump(3), ret(3)}
	for b := range four {
		four[b].End = ends[b]
	}
	return api.MFunc{Params: 1, Blocks: four}
}

// TestFirst: which fault comes first (P7.2).
func TestFirst(t *testing.T) {
	none := block(ret(-1))
	mulw := func(d, e, a int) api.Mach { return api.Mach{Op: api.MMulw, D: d, E: e, A: a} }
	for _, x := range []struct {
		name string
		m    api.MFunc
		want fault
	}{
		{"an operation, and a register", code(0, block(ret(-1), abc(api.MSwap, -1, -1, -1, -1))), fault{api.ErrIns, 0, 0}},
		{"too many operands, and a register", code(0, block(ret(-1), call(1, 0, 0, 0, 0, 0, -1))), fault{api.ErrIns, 0, 0}},
		{"the last operand", code(0, block(ret(-1), call(1, 0, 0, 0, 0, 8192))), fault{api.ErrReg, 0, 0}},
		{"a register, and E is D", code(0, block(ret(-1), mulw(3, 3, -1))), fault{api.ErrReg, 0, 0}},
		{"E is D, which is none", code(0, block(ret(-1), mulw(-3, -3, 1))), fault{api.ErrReg, 0, 0}},
		{"E is D", code(0, block(ret(-1), li(3, 3), mulw(3, 3, 3))), fault{api.ErrTwice, 0, 1}},
		{"E is D, but of another operation", code(0, block(ret(-1), api.Mach{Op: api.MMul, D: 3, E: 3})), fault{}},
		{"a register is made again, and taken unmade", code(0, block(ret(9), li(3, 3), mulw(3, 4, 3), abc(api.MAdd, 3, 4, 7, 0))), fault{}},
		{"a register, and a number", code(0, block(ret(-1), imm(api.MAddI, -1, 0, 128))), fault{api.ErrReg, 0, 0}},
		{"an end's To, and its register", code(0, block(bnz(-1, 0, 0))), fault{api.ErrReg, 0, 0}},
		{"an end's shape, and its register", code(0, block(api.End{Op: api.EBnz, A: -1, To: []int{7}})), fault{api.ErrIns, 0, 0}},
		{"on to block 0", code(0, block(jump(0), li(1, 1))), fault{api.ErrBlock, 0, 1}},
		{"on to no block", code(0, block(jump(1), li(1, 1))), fault{api.ErrBlock, 0, 1}},
		{"on to a block below 0", code(0, block(bnz(0, 1, -1)), none), fault{api.ErrBlock, 0, 0}},
		{"the last of a table", code(0, block(jt(0, 1, 1, 2)), none), fault{api.ErrBlock, 0, 0}},
		{"a phi's register, and its Dst made ahead", diamond(none, none, none, with(none, phi(3, 1, 0, 2, 0), phi(3, 1, 0, 2, -1))), fault{api.ErrReg, 3, -2}},
		{"a phi's Dst made ahead", diamond(none, none, none, with(none, phi(3, 1, 0, 2, 0), phi(4, 1, 0, 2, 0), phi(3, 1, 0, 2, 0))), fault{api.ErrTwice, 3, -3}},
		{"a phi's Dst made in another block", diamond(none, with(none, phi(3, 0, 0)), with(none, phi(3, 0, 0)), with(none, phi(3, 1, 0, 2, 0))), fault{}},
		{"a phi's Dst is a parameter, and made by an instruction", diamond(none, none, none, with(block(ret(-1), li(0, 1)), phi(0, 1, 0, 2, 0))), fault{}},
		{"phis are ahead of instructions", diamond(none, none, none, with(block(ret(-1), li(-1, 1)), phi(-3, 1, 0, 2, 0))), fault{api.ErrReg, 3, -1}},
		{"the first phi", diamond(none, none, none, with(none, phi(3, 1, 0, 2, -1), phi(-1, 1, 0, 2, 0))), fault{api.ErrReg, 3, -1}},
		{"instructions are ahead of an end", code(0, block(jump(0), li(1, 32768))), fault{api.ErrImm, 0, 0}},
		{"instructions in order", code(0, block(ret(-1), li(1, 1), li(1, 32768), li(-1, 1))), fault{api.ErrImm, 0, 1}},
		{"blocks in order", code(0, block(jump(7)), block(ret(-1), li(-1, 1))), fault{api.ErrBlock, 0, 0}},
		{"blocks in order, not of ways", code(0, block(jump(2)), block(ret(-1), li(-1, 1)), block(jump(1), li(1, 32768))), fault{api.ErrReg, 1, 0}},
		{"all parts are ahead of reach", code(0, none, block(ret(-1), li(-1, 1))), fault{api.ErrReg, 1, 0}},
		{"the first that is not reached", code(0, block(jump(3)), none, none, none), fault{api.ErrReach, 1, 0}},
		{"not reached, but by one that is not", code(0, none, block(jump(2)), block(jump(1))), fault{api.ErrReach, 1, 0}},
		{"the last is not reached", code(0, block(jump(2)), none, block(jump(1)), block(jump(1), li(1, 1))), fault{api.ErrReach, 3, 0}},
		{"reach is ahead of phis", code(0, with(none, phi(1)), with(none, phi(1, 5, 0))), fault{api.ErrReach, 1, 0}},
		{"a phi of block 0", code(0, with(none, phi(1))), fault{api.ErrPhi, 0, -1}},
		{"a phi of block 0 with something", code(0, with(none, phi(1, 0, 0))), fault{api.ErrPhi, 0, -1}},
		{"a phi's In are anything ahead of that", diamond(none, none, none, with(none, phi(3, -9, 0))), fault{api.ErrPhi, 3, -1}},
		{"not in order", diamond(none, none, none, with(none, phi(3, 1, 0, 2, 0), phi(4, 2, 0, 1, 0))), fault{api.ErrPhi, 3, -2}},
		{"one too few", diamond(none, none, none, with(none, phi(3, 1, 0))), fault{api.ErrPhi, 3, -1}},
		{"one too many", diamond(none, none, none, with(none, phi(3, 1, 0, 2, 0, 2, 0))), fault{api.ErrPhi, 3, -1}},
		{"from elsewhere", diamond(none, none, none, with(none, phi(3, 0, 0, 2, 0))), fault{api.ErrPhi, 3, -1}},
		{"from nowhere", diamond(none, none, none, with(none, phi(3))), fault{api.ErrPhi, 3, -1}},
		{"phis by blocks", diamond(none, none, with(none, phi(3, 1, 0)), with(none, phi(3))), fault{api.ErrPhi, 2, -1}},
		{"each once, though both ways lead there", code(1, block(bnz(0, 1, 1)), with(none, phi(3, 0, 0))), fault{}},
		{"from both ways", code(1, block(bnz(0, 1, 1)), with(none, phi(3, 0, 0, 0, 0))), fault{api.ErrPhi, 1, -1}},
		{"round", code(1, block(jump(1)), with(block(bnz(3, 1, 2)), phi(3, 0, 0, 1, 3)), none), fault{}},
	} {
		hold(t, x.name, x.m, x.want)
	}
}

// TestFar: code with far too much of all is told of at once (P7.2, R2).
func TestFar(t *testing.T) {
	const many = 1 << 20
	hold(t, "a long call", code(0, block(ret(-1), call(1, 0, make([]int, many)...))), fault{api.ErrIns, 0, 0})
	hold(t, "a long end", code(0, block(jt(0, make([]int, many)...))), fault{api.ErrIns, 0, 0})
	hold(t, "a long phi", code(0, block(jump(1)), with(block(ret(-1)), api.Phi{In: make([]api.In, many)})), fault{api.ErrPhi, 1, -1})
	// All blocks go on to all, as far as a table can, and each has as many phis as there is room for.
	m := code(0, make([]api.MBlock, api.MaxBlocks)...)
	for b := range m.Blocks {
		m.Blocks[b].End = jt(0)
		for n := range api.MaxTable + 1 {
			m.Blocks[b].End.To = append(m.Blocks[b].End.To, 1+(b+n)%(api.MaxBlocks-1))
		}
	}
	preds := predecessors(m)
	for b := 1; b < len(m.Blocks); b++ {
		for n := range 30 {
			p := api.Phi{Dst: n}
			for _, from := range preds[b] {
				p.In = append(p.In, api.In{From: from, Val: 8191})
			}
			m.Blocks[b].Phis = append(m.Blocks[b].Phis, p)
		}
	}
	if got := told(m); got != (fault{}) {
		t.Errorf("a web: %v", got)
	}
	last := m.Blocks[511].Phis[29].In
	last[len(last)-1].From--
	if got := told(m); got != (fault{api.ErrPhi, 511, -30}) {
		t.Errorf("a web with a wrong phi: %v", got)
	}
}
