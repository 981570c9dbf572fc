package cover_test

import (
	"testing"

	"jacquard/api"
	"jacquard/sample"
	"jacquard/tile"
)

// withPhis is a block with phis.
func withPhis(b api.Block, l ...api.Phi) api.Block {
	b.Phis = l
	return b
}

// coded is a block of machine code with phis.
func coded(b api.MBlock, l ...api.Phi) api.MBlock {
	b.Phis = l
	return b
}

// round is a function that goes round: two phis, and all that is needed beside them.
func round(l ...api.Phi) api.Func {
	return function(2, block(jump(1)), withPhis(block(branch(2, 1, 2)), l...), block(ret(3)))
}

// TestPhis: phis are the same, one by one (P9.1).
func TestPhis(t *testing.T) {
	a, b := phi(2, 0, 0, 1, 3), phi(3, 0, 1, 1, 2)
	f := round(a, b)
	for _, x := range []struct {
		name string
		l    []api.Phi
		want verdict
	}{
		{"the same", []api.Phi{a, b}, verdict{}},
		{"the other way round", []api.Phi{b, a}, verdict{api.ErrMatch, 1, -1}},
		{"one", []api.Phi{a}, verdict{api.ErrMatch, 1, -1}},
		{"the other", []api.Phi{b}, verdict{api.ErrMatch, 1, -1}},
		{"none", nil, verdict{api.ErrMatch, 1, -1}},
		{"one more", []api.Phi{a, b, phi(4, 0, 0, 1, 0)}, verdict{api.ErrMatch, 1, -1}},
		{"another register", []api.Phi{a, phi(4, 0, 1, 1, 2)}, verdict{api.ErrMatch, 1, -1}},
		{"another operand", []api.Phi{phi(2, 0, 0, 1, 2), b}, verdict{api.ErrMatch, 1, -1}},
		{"another operand of the last", []api.Phi{a, phi(3, 0, 0, 1, 2)}, verdict{api.ErrMatch, 1, -1}},
	} {
		m := code(2, mblock(ej(1)), coded(mblock(ebnz(2, 1, 2)), x.l...), mblock(eret(3)))
		mayBe(t, x.name, f, m)
		hold(t, x.name, f, tile.All(), m, 1, x.want)
	}
	// Blocks that control comes to from elsewhere: the end that goes there stands behind the phi.
	f = function(2, block(branch(0, 1, 2)), withPhis(block(ret(2)), phi(2, 0, 0, 2, 1)), block(jump(1)))
	m := code(2, mblock(ebnz(0, 1, 2)), coded(mblock(eret(2)), phi(2, 0, 0)), mblock(eret(1)))
	mayBe(t, "from elsewhere", f, m)
	hold(t, "from elsewhere", f, tile.All(), m, 1, verdict{api.ErrMatch, 1, -1})
	f.Blocks[0].Term = jump(2)
	f.Blocks[1].Phis = []api.Phi{phi(2, 2, 0)}
	m = code(2, mblock(ej(1)), coded(mblock(ej(2)), phi(2, 0, 0)), mblock(eret(1)))
	mayBe(t, "from another block", f, m)
	hold(t, "from another block", f, tile.All(), m, 0, verdict{api.ErrCover, 0, 0})
	hold(t, "a phi from elsewhere", withoutFirst(f), tile.All(), m, 0, verdict{api.ErrMatch, 1, -1})
}

// withoutFirst is a function that goes on to its last block from its middle one, with a phi there that takes another value.
func withoutFirst(f api.Func) api.Func {
	f = sample.Copied(f)
	f.Blocks[0].Term, f.Blocks[2].Term = jump(1), ret(1)
	f.Blocks[1].Phis, f.Blocks[1].Term = []api.Phi{phi(2, 0, 1)}, jump(2)
	return f
}

// TestTemps: temps are numbers of their own (P9.1).
func TestTemps(t *testing.T) {
	f := function(1,
		block(jump(1), load(1, 0, 300), store(0, 1, -1)),
		withPhis(block(branch(2, 1, 2), con(4, 9)), phi(2, 0, 0, 1, 4)),
		block(ret(5), load(5, 4, 1<<20)),
	)
	// made is the machine code with such temps.
	made := func(a, b, c int) api.MFunc {
		return code(1,
			mblock(ej(1), liw(a, 300), abc(api.MLdX, 1, 0, a, 0), liw(b, -1), abc(api.MStX, 0, 0, b, 1)),
			coded(mblock(ebnz(2, 1, 2), li(4, 9)), phi(2, 0, 0, 1, 4)),
			mblock(eret(5), liw(c, 1<<20), abc(api.MLdX, 5, 4, c, 0)),
		)
	}
	for _, x := range []struct {
		name    string
		a, b, c int
		want    verdict
	}{
		{"one by one", 6, 7, 8, verdict{}},
		{"in any order", 8191, 6, 4000, verdict{}},
		{"the first two the same", 6, 6, 7, verdict{api.ErrReg, 0, 0}},
		{"the last two the same", 7, 6, 6, verdict{api.ErrReg, 0, 1}},
		{"the first and the last the same", 6, 7, 6, verdict{api.ErrReg, 0, 0}},
		{"all the same", 7, 7, 7, verdict{api.ErrReg, 0, 0}},
		{"what the Load makes", 1, 6, 7, verdict{api.ErrReg, 0, 0}},
		{"a parameter", 6, 0, 7, verdict{api.ErrReg, 0, 1}},
		{"a phi's", 6, 2, 7, verdict{api.ErrReg, 0, 1}},
		{"a number that nothing makes, below others", 6, 7, 3, verdict{api.ErrReg, 2, 0}},
		{"the greatest value", 6, 7, 5, verdict{api.ErrReg, 2, 0}},
		{"what the Store stores", 6, 1, 7, verdict{api.ErrReg, 0, 1}},
		{"the Load's address", 6, 7, 4, verdict{api.ErrReg, 2, 0}},
	} {
		m := made(x.a, x.b, x.c)
		mayBe(t, x.name, f, m)
		hold(t, x.name, f, tile.All(), m, 4+3+1+1+4, x.want)
	}
	for _, x := range []struct {
		name   string
		change func(m api.MFunc)
		want   verdict
	}{
		{"another to take", func(m api.MFunc) { m.Blocks[0].Ins[1].B = 7 }, verdict{api.ErrCover, 0, 0}},
		{"the other way round", func(m api.MFunc) { m.Blocks[0].Ins[1].A, m.Blocks[0].Ins[1].B = 6, 0 }, verdict{api.ErrCover, 0, 0}},
		{"another number", func(m api.MFunc) { m.Blocks[0].Ins[0].Imm = 301 }, verdict{api.ErrCover, 0, 0}},
		{"half of it", func(m api.MFunc) { m.Blocks[2].Ins = m.Blocks[2].Ins[:1] }, verdict{api.ErrCover, 2, 0}},
		{"the other half", func(m api.MFunc) { m.Blocks[2].Ins = m.Blocks[2].Ins[1:] }, verdict{api.ErrCover, 2, 0}},
		{"a phi that makes it, later", func(m api.MFunc) { m.Blocks[1].Phis[0].Dst = 6 }, verdict{api.ErrReg, 0, 0}},
		{"a phi that makes it, ahead", func(m api.MFunc) { m.Blocks[1].Phis = append(m.Blocks[1].Phis, phi(8, 0, 0, 1, 4)) }, verdict{api.ErrMatch, 1, -1}},
		{"an instruction that makes it, later", func(m api.MFunc) { m.Blocks[1].Ins = append(m.Blocks[1].Ins, li(7, 1)) }, verdict{api.ErrReg, 0, 1}},
		{"an upper half that is it", func(m api.MFunc) {
			m.Blocks[2].Ins = append(m.Blocks[2].Ins, api.Mach{Op: api.MMulw, D: 9, E: 7})
		}, verdict{api.ErrReg, 0, 1}},
		{"what only names it", func(m api.MFunc) {
			m.Blocks[2].Ins = append(m.Blocks[2].Ins, api.Mach{Op: api.MSt, D: 7, E: 7, A: 7, B: 7})
		}, verdict{api.ErrMatch, 2, 1}},
	} {
		m := made(6, 7, 8)
		x.change(m)
		mayBe(t, x.name, f, m)
		hold(t, x.name, f, tile.All(), m, 13, x.want)
	}
}

// TestNoRoom: a function whose values leave no number for a temp (P9.1).
func TestNoRoom(t *testing.T) {
	f := function(1, block(ret(8191), load(8191, 0, 300)))
	for _, temp := range []int{1, 8190, 8191} {
		m := code(1, mblock(eret(8191), liw(temp, 300), abc(api.MLdX, 8191, 0, temp, 0)))
		mayBe(t, "no room", f, m)
		hold(t, "no room", f, tile.All(), m, 4, verdict{api.ErrReg, 0, 0})
	}
}

// TestFirst: of several faults the first is told: block by block all of point 2, then place by place ErrUse, then the cost (P9.1).
func TestFirst(t *testing.T) {
	f := function(2,
		block(jump(1), con(2, 5), two(api.Add, 3, 0, 2), load(4, 3, 300)),
		withPhis(block(jump(2), con(6, 7), two(api.Sub, 7, 5, 6)), phi(5, 0, 4)),
		block(ret(9), con(8, 1), two(api.Add, 9, 7, 8)),
	)
	fine := code(2,
		mblock(ej(1), imm(api.MAddI, 3, 0, 5), liw(10, 300), abc(api.MLdX, 4, 3, 10, 0)),
		coded(mblock(ej(2), imm(api.MAddI, 7, 5, -7)), phi(5, 0, 4)),
		mblock(eret(9), imm(api.MAddI, 9, 7, 1)),
	)
	cost := 1 + 4 + 1 + 1
	mayBe(t, "fine", f, fine)
	hold(t, "fine", f, tile.All(), fine, cost, verdict{})
	// Each fault, the first of them first.
	faults := []struct {
		name   string
		change func(m *api.MFunc, cost *int)
		want   verdict
	}{
		{"an instruction", func(m *api.MFunc, _ *int) { m.Blocks[0].Ins[0].Imm = 6 }, verdict{api.ErrCover, 0, 1}},
		{"a temp", func(m *api.MFunc, _ *int) { m.Blocks[0].Ins[1].D, m.Blocks[0].Ins[2].B = 0, 0 }, verdict{api.ErrReg, 0, 2}},
		{"too much", func(m *api.MFunc, _ *int) { m.Blocks[0].Ins = append(m.Blocks[0].Ins, li(11, 1)) }, verdict{api.ErrMatch, 0, 3}},
		{"an end", func(m *api.MFunc, _ *int) { m.Blocks[0].End.Imm = 1 }, verdict{api.ErrCover, 0, 3}},
		{"a phi", func(m *api.MFunc, _ *int) { m.Blocks[1].Phis[0].In[0].Val = 3 }, verdict{api.ErrMatch, 1, -1}},
		{"an instruction behind", func(m *api.MFunc, _ *int) { m.Blocks[1].Ins[0].Imm = 7 }, verdict{api.ErrCover, 1, 1}},
		{"too much behind", func(m *api.MFunc, _ *int) { m.Blocks[1].Ins = append(m.Blocks[1].Ins, li(12, 1)) }, verdict{api.ErrMatch, 1, 2}},
		{"an end behind", func(m *api.MFunc, _ *int) { m.Blocks[1].End.A = 1 }, verdict{api.ErrCover, 1, 2}},
		{"the last end", func(m *api.MFunc, _ *int) { m.Blocks[2].End = etrap(1) }, verdict{api.ErrCover, 2, 2}},
		{"both", func(m *api.MFunc, _ *int) { m.Blocks[0].Ins = append([]api.Mach{li(2, 5)}, m.Blocks[0].Ins...) }, verdict{api.ErrUse, 0, 0}},
		{"both in the middle", func(m *api.MFunc, _ *int) { m.Blocks[1].Ins = append([]api.Mach{li(6, 7)}, m.Blocks[1].Ins...) }, verdict{api.ErrUse, 1, 0}},
		{"neither, at last", func(m *api.MFunc, _ *int) { m.Blocks[2].Ins = nil }, verdict{api.ErrUse, 2, 0}},
		{"a cost", func(_ *api.MFunc, cost *int) { *cost++ }, verdict{e: api.ErrCost}},
	}
	for n, first := range faults {
		for _, later := range faults[n:] {
			m, sum := sample.CopiedCode(fine), cost
			first.change(&m, &sum)
			if first.name != later.name {
				later.change(&m, &sum)
			}
			name := first.name + ", and " + later.name
			mayBe(t, name, f, m)
			hold(t, name, f, tile.All(), m, sum, first.want)
		}
	}
}

// TestWhole: what is wrong with the whole is told first: the table, then the function or the machine code, then whether they go together (P9.1).
func TestWhole(t *testing.T) {
	f := function(1, block(ret(2), con(1, 5), two(api.Add, 2, 0, 1)))
	m := code(1, mblock(eret(2), imm(api.MAddI, 2, 0, 5)))
	other := code(2, mblock(eret(2), imm(api.MAddI, 2, 0, 5)))
	longer := code(1, mblock(ej(1)), mblock(eret(2), imm(api.MAddI, 2, 0, 5)))
	wrong := function(1, block(ret(2), con(1, 5), two(api.Add, 2, 0, 3)))
	bad := code(1, mblock(eret(2), imm(api.MAddI, 2, 0, 500)))
	table1025 := append(make([]api.Tile, 0, 1025), usual()...)
	for len(table1025) < 1025 {
		table1025 = append(table1025, api.Tile{Pat: 1})
	}
	for _, x := range []struct {
		name string
		f    api.Func
		l    []api.Tile
		m    api.MFunc
		want api.Errno
	}{
		{"fine", f, usual(), m, api.OK},
		{"as many tiles as there may be", f, append(table1025[:1023:1023], api.Tile{Pat: 37}), m, api.OK},
		{"too many tiles", f, table1025, m, api.ErrMany},
		{"a pattern", f, usual(38, 1), m, api.ErrTile},
		{"a cost", f, usual(1, 1001), m, api.ErrCost},
		{"too many tiles, and all else", wrong, table1025, bad, api.ErrMany},
		{"a pattern, and all else", wrong, usual(0, 1), bad, api.ErrTile},
		{"a cost, and all else", wrong, usual(37, -1), api.MFunc{}, api.ErrCost},
		{"the function", wrong, usual(), m, api.ErrArg},
		{"the function, and nothing to cover it", wrong, nil, m, api.ErrArg},
		{"no function", api.Func{}, usual(), m, api.ErrArg},
		{"the machine code", f, usual(), bad, api.ErrArg},
		{"no machine code", f, usual(), api.MFunc{}, api.ErrArg},
		{"neither", api.Func{}, nil, api.MFunc{}, api.ErrArg},
		{"the function, and not together", wrong, usual(), longer, api.ErrArg},
		{"the machine code, and not together", f, usual(), code(2, bad.Blocks...), api.ErrArg},
		{"other parameters", f, usual(), other, api.ErrMatch},
		{"more blocks", f, usual(), longer, api.ErrMatch},
		{"fewer blocks", function(1, block(jump(1)), f.Blocks[0]), usual(), m, api.ErrMatch},
		{"more blocks, and other parameters", f, usual(), code(3, longer.Blocks...), api.ErrMatch},
		{"other parameters, and no tiles", f, nil, other, api.ErrMatch},
		{"too many instructions of the machine", f, usual(), code(1, mblock(eret(2), make([]api.Mach, 16384)...)), api.ErrArg},
		{"too many blocks", function(1, make([]api.Block, 513)...), usual(), code(1, make([]api.MBlock, 513)...), api.ErrArg},
	} {
		for _, cost := range []int{1, 0, -1} {
			want := x.want
			if want == api.OK && cost != 1 {
				want = api.ErrCost
			}
			hold(t, x.name, x.f, x.l, x.m, cost, verdict{e: want})
		}
	}
}
