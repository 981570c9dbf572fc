package cover_test

import (
	"math"
	"testing"

	"jacquard/api"
	"jacquard/check"
	"jacquard/cover"
	"jacquard/mach"
	"jacquard/sample"
	"jacquard/tile"
)

// Short forms for what is written out.
var (
	ret, jump, branch, turn = sample.Ret, sample.Jump, sample.Branch, sample.Switch
	con, two, load, store   = sample.Const, sample.Two, sample.Load, sample.Store
	block, function, phi    = sample.Block, sample.Func, sample.Phi
	table, usual            = sample.Table, sample.Usual

	eret, etrap, ej, ebnz = sample.ERet, sample.ETrap, sample.EJ, sample.EBnz
	etwo, ejt             = sample.ETwo, sample.EJt
	li, abc, imm, mcall   = sample.MLi, sample.MThree, sample.MImm, sample.MCall
	mblock, code          = sample.MBlock, sample.MFunc
)

// liw is a number of 32 bits.
func liw(d int, n int32) api.Mach { return imm(api.MLiw, d, 0, n) }

// told is what the program tells.
func told(f api.Func, l []api.Tile, m api.MFunc, cost int) verdict {
	var v verdict
	v.e, v.block, v.place = cover.Check(f, l, m, cost)
	return v
}

// hold holds what is told against what is written out, and what is found a second time.
func hold(t *testing.T, name string, f api.Func, l []api.Tile, m api.MFunc, cost int, want verdict) {
	t.Helper()
	if got := told(f, l, m, cost); got != want {
		t.Errorf("%s: %v, not %v", name, got, want)
	}
	if got := second(f, l, m, cost); got != want {
		t.Errorf("%s: by the words %v, not %v", name, got, want)
	}
}

// mayBe holds that a function, and machine code, may be.
func mayBe(t *testing.T, name string, f api.Func, m api.MFunc) {
	t.Helper()
	if e, b, p := check.Func(f); e != api.OK {
		t.Fatalf("%s: the function may not be: %v %d %d", name, e, b, p)
	}
	if e, b, p := mach.Func(m); e != api.OK {
		t.Fatalf("%s: the machine code may not be: %v %d %d", name, e, b, p)
	}
}

// TestExample: the document's (P9.1, P9.2).
func TestExample(t *testing.T) {
	f := function(1, block(ret(2), con(1, 5), two(api.Add, 2, 0, 1)))
	inside, beside := imm(api.MAddI, 2, 0, 5), abc(api.MAdd, 2, 0, 1, 0)
	for _, x := range []struct {
		name string
		l    []api.Mach
		cost int
		want verdict
	}{
		{"inside", []api.Mach{inside}, 1, verdict{}},
		{"beside", []api.Mach{li(1, 5), beside}, 2, verdict{}},
		{"both", []api.Mach{li(1, 5), inside}, 2, verdict{api.ErrUse, 0, 0}},
	} {
		hold(t, x.name, f, tile.All(), code(1, mblock(eret(2), x.l...)), x.cost, x.want)
	}
	if n, e := cover.Least(f, tile.All()); n != 1 || e != api.OK {
		t.Errorf("Least: %d %v", n, e)
	}
	for n := range 4 {
		if cover.Cheapest(f, tile.All(), n) != (n == 1) {
			t.Errorf("Cheapest of %d", n)
		}
	}
}

// spilled is an instruction with something where nothing has a meaning.
func spilled(i api.Mach, change func(*api.Mach)) api.Mach {
	change(&i)
	return i
}

// TestOne: a Const, an Add that takes it, and a Ret, beside all kinds of machine code (P9.1).
func TestOne(t *testing.T) {
	f := function(1, block(ret(2), con(1, 5), two(api.Add, 2, 0, 1)))
	inside, beside, five := imm(api.MAddI, 2, 0, 5), abc(api.MAdd, 2, 0, 1, 0), li(1, 5)
	for _, x := range []struct {
		name string
		l    []api.Mach
		end  api.End
		cost int
		want verdict
	}{
		{"a longer Const", []api.Mach{liw(1, 5), beside}, eret(2), 3, verdict{}},
		{"nothing", nil, eret(2), 0, verdict{api.ErrUse, 0, 0}},
		{"nothing, and a cost", nil, eret(2), 7, verdict{api.ErrUse, 0, 0}},
		{"no Const", []api.Mach{beside}, eret(2), 1, verdict{api.ErrUse, 0, 0}},
		{"no Add", []api.Mach{five}, eret(2), 1, verdict{api.ErrUse, 0, 1}},
		{"the Const too late", []api.Mach{beside, five}, eret(2), 2, verdict{api.ErrMatch, 0, 2}},
		{"the Const behind, with an Add of its own", []api.Mach{inside, five}, eret(2), 2, verdict{api.ErrMatch, 0, 2}},
		{"twice", []api.Mach{five, five, beside}, eret(2), 3, verdict{api.ErrMatch, 0, 2}},
		{"the Add twice", []api.Mach{inside, inside}, eret(2), 2, verdict{api.ErrMatch, 0, 2}},
		{"something ahead", []api.Mach{li(9, 9), inside}, eret(2), 1, verdict{api.ErrMatch, 0, 2}},
		{"something between", []api.Mach{five, li(9, 9), beside}, eret(2), 1, verdict{api.ErrMatch, 0, 2}},
		{"something behind", []api.Mach{inside, li(9, 9)}, eret(2), 1, verdict{api.ErrMatch, 0, 2}},
		{"something behind, and another end", []api.Mach{inside, li(9, 9)}, eret(1), 1, verdict{api.ErrMatch, 0, 2}},
		{"another number", []api.Mach{li(1, 6), beside}, eret(2), 2, verdict{api.ErrCover, 0, 0}},
		{"another number inside", []api.Mach{imm(api.MAddI, 2, 0, 6)}, eret(2), 1, verdict{api.ErrCover, 0, 1}},
		{"another register to take", []api.Mach{imm(api.MAddI, 2, 1, 5)}, eret(2), 1, verdict{api.ErrCover, 0, 1}},
		{"the other way round", []api.Mach{five, abc(api.MAdd, 2, 1, 0, 0)}, eret(2), 2, verdict{api.ErrCover, 0, 1}},
		{"another register to make", []api.Mach{imm(api.MAddI, 3, 0, 5)}, eret(2), 1, verdict{api.ErrMatch, 0, 2}},
		{"another operation", []api.Mach{five, abc(api.MSub, 2, 0, 1, 0)}, eret(2), 2, verdict{api.ErrCover, 0, 1}},
		{"a copy", []api.Mach{five, abc(api.MMov, 2, 0, 0, 0)}, eret(2), 2, verdict{api.ErrCover, 0, 1}},
		{"the Const by a copy", []api.Mach{abc(api.MMov, 1, 0, 0, 0), beside}, eret(2), 2, verdict{api.ErrCover, 0, 0}},
		{"the Const as an upper half", []api.Mach{{Op: api.MMulw, D: 7, E: 1}, beside}, eret(2), 2, verdict{api.ErrCover, 0, 0}},
		{"what makes nothing", []api.Mach{{Op: api.MSt, D: 1}, beside}, eret(2), 2, verdict{api.ErrMatch, 0, 2}},
		{"what stands beside a Const", []api.Mach{spilled(five, func(i *api.Mach) { i.A = 1 }), beside}, eret(2), 2, verdict{api.ErrCover, 0, 0}},
		{"what stands beside", []api.Mach{spilled(inside, func(i *api.Mach) { i.B = 1 })}, eret(2), 1, verdict{api.ErrCover, 0, 1}},
		{"what stands beside, far", []api.Mach{spilled(inside, func(i *api.Mach) { i.C = -1 })}, eret(2), 1, verdict{api.ErrCover, 0, 1}},
		{"what stands beside what is made", []api.Mach{spilled(inside, func(i *api.Mach) { i.E = math.MaxInt })}, eret(2), 1, verdict{api.ErrCover, 0, 1}},
		{"operands of no call", []api.Mach{spilled(inside, func(i *api.Mach) { i.Args = []int{0} })}, eret(2), 1, verdict{api.ErrCover, 0, 1}},
		{"a row without items", []api.Mach{spilled(inside, func(i *api.Mach) { i.Args = []int{} })}, eret(2), 1, verdict{}},
		{"a number of no Add", []api.Mach{five, imm(api.MAdd, 2, 0, 5)}, eret(2), 2, verdict{api.ErrCover, 0, 1}},
		{"another end", []api.Mach{inside}, etrap(0), 1, verdict{api.ErrCover, 0, 2}},
		{"nothing returned", []api.Mach{inside}, eret(-1), 1, verdict{api.ErrCover, 0, 2}},
		{"another one returned", []api.Mach{inside}, eret(0), 1, verdict{api.ErrCover, 0, 2}},
		{"a number of the end", []api.Mach{inside}, api.End{Op: api.ERet, A: 2, Imm: 1}, 1, verdict{api.ErrCover, 0, 2}},
		{"a register of the end", []api.Mach{inside}, api.End{Op: api.ERet, A: 2, B: 1}, 1, verdict{api.ErrCover, 0, 2}},
		{"both, another end", []api.Mach{five, inside}, eret(0), 2, verdict{api.ErrCover, 0, 2}},
		{"both, another cost", []api.Mach{five, inside}, eret(2), 1, verdict{api.ErrUse, 0, 0}},
		{"a cost too high", []api.Mach{inside}, eret(2), 2, verdict{e: api.ErrCost}},
		{"a cost too low", []api.Mach{five, beside}, eret(2), 1, verdict{e: api.ErrCost}},
		{"no cost", []api.Mach{inside}, eret(2), 0, verdict{e: api.ErrCost}},
		{"a cost below 0", []api.Mach{inside}, eret(2), -1, verdict{e: api.ErrCost}},
		{"a cost far off", []api.Mach{inside}, eret(2), math.MinInt, verdict{e: api.ErrCost}},
		{"a cost that goes round", []api.Mach{inside}, eret(2), 1<<32 + 1, verdict{e: api.ErrCost}},
	} {
		m := code(1, mblock(x.end, x.l...))
		mayBe(t, x.name, f, m)
		hold(t, x.name, f, tile.All(), m, x.cost, x.want)
	}
}

// shown is the first block of a function with blocks behind that are gone on to.
func shown(end api.Term, l ...api.Ins) api.Func {
	f := function(2, block(end, l...))
	for _, to := range end.To {
		for to >= len(f.Blocks) {
			f.Blocks = append(f.Blocks, block(ret()))
		}
	}
	return f
}

// laid is the first block of machine code, likewise.
func laid(end api.End, l ...api.Mach) api.MFunc {
	m := code(2, mblock(end, l...))
	for _, to := range end.To {
		for to >= len(m.Blocks) {
			m.Blocks = append(m.Blocks, mblock(eret(-1)))
		}
	}
	return m
}

// TestTiles: tiles of all shapes, and what is inner to them (P9.1).
func TestTiles(t *testing.T) {
	trap := api.Term{Kind: api.Trap, Imm: -3}
	far := shown(ret(4), con(2, 5), two(api.Add, 3, 0, 2), load(4, 3, 1))
	sum := shown(ret(4), two(api.Add, 3, 0, 1), load(4, 3, 0))
	kept := shown(ret(), con(2, 5), two(api.Add, 3, 0, 2), store(3, 1, -5))
	product := shown(ret(3), two(api.Mul, 2, 0, 1), two(api.Add, 3, 2, 0))
	less := shown(branch(3, 1, 2), con(2, 9), two(api.Lt, 3, 0, 2))
	table3 := shown(turn(3, 1, 1, 2), con(2, 5), two(api.Add, 3, 0, 2))
	called := shown(ret(4), con(2, 5), api.Ins{Op: api.Call, Dst: 4, Imm: 7, Args: []int{1, 2}})
	halves := shown(ret(3), api.Ins{Op: api.Mulw, Dst: 2, Two: 3, Args: []int{0, 1}})
	twice := shown(ret(3), con(2, 5), two(api.Add, 3, 2, 2))
	dead := shown(ret(), con(2, 5))
	for _, x := range []struct {
		name string
		f    api.Func
		m    api.MFunc
		cost int
		want verdict
	}{
		{"a Ret of nothing", shown(ret()), laid(eret(-1)), 0, verdict{}},
		{"a Ret of nothing, told otherwise", shown(ret()), laid(eret(-2)), 0, verdict{api.ErrCover, 0, 0}},
		{"a Ret of a parameter", shown(ret(1)), laid(eret(1)), 0, verdict{}},
		{"a Ret of another parameter", shown(ret(1)), laid(eret(0)), 0, verdict{api.ErrCover, 0, 0}},
		{"a Trap", shown(trap), laid(etrap(-3)), 0, verdict{}},
		{"another Trap", shown(trap), laid(etrap(3)), 0, verdict{api.ErrCover, 0, 0}},
		{"a Jump", shown(jump(1)), laid(ej(1)), 0, verdict{}},
		{"a Jump that costs", shown(jump(1)), laid(ej(1)), 1, verdict{e: api.ErrCost}},
		{"a Load of it all", far, laid(eret(4), imm(api.MLd, 4, 0, 6)), 2, verdict{}},
		{"a Load of the sum", far, laid(eret(4), imm(api.MAddI, 3, 0, 5), imm(api.MLd, 4, 3, 1)), 3, verdict{}},
		{"a Load of nothing inside", far, laid(eret(4), li(2, 5), abc(api.MAdd, 3, 0, 2, 0), imm(api.MLd, 4, 3, 1)), 4, verdict{}},
		{"a Load of it all, with the sum", far, laid(eret(4), imm(api.MAddI, 3, 0, 5), imm(api.MLd, 4, 0, 6)), 3, verdict{api.ErrUse, 0, 1}},
		{"a Load of it all, with the Const", far, laid(eret(4), li(2, 5), imm(api.MLd, 4, 0, 6)), 3, verdict{api.ErrUse, 0, 0}},
		{"a Load of it all, with both", far, laid(eret(4), li(2, 5), abc(api.MAdd, 3, 0, 2, 0), imm(api.MLd, 4, 0, 6)), 4, verdict{api.ErrUse, 0, 0}},
		{"a Load of the sum, which lacks", far, laid(eret(4), imm(api.MLd, 4, 3, 1)), 2, verdict{api.ErrUse, 0, 0}},
		{"a Load of the sum, which lacks, with the Const", far, laid(eret(4), li(2, 5), imm(api.MLd, 4, 3, 1)), 3, verdict{api.ErrUse, 0, 1}},
		{"a Load of it all, one off", far, laid(eret(4), imm(api.MLd, 4, 0, 5)), 2, verdict{api.ErrCover, 0, 2}},
		{"a Load of a sum of two", sum, laid(eret(4), abc(api.MLdX, 4, 0, 1, 0)), 2, verdict{}},
		{"a Load of a sum of two, the other way round", sum, laid(eret(4), abc(api.MLdX, 4, 1, 0, 0)), 2, verdict{api.ErrCover, 0, 1}},
		{"a Load of a sum of two beside", sum, laid(eret(4), abc(api.MAdd, 3, 0, 1, 0), imm(api.MLd, 4, 3, 0)), 3, verdict{}},
		{"a Load of a sum of two by a temp", sum, laid(eret(4), abc(api.MAdd, 3, 0, 1, 0), liw(5, 0), abc(api.MLdX, 4, 3, 5, 0)), 5, verdict{}},
		{"a Store of it all", kept, laid(eret(-1), imm(api.MSt, 0, 0, 0), abc(api.MSt, 0, 0, 1, 0)), 1, verdict{api.ErrCover, 0, 2}},
		{"a Store of all", kept, laid(eret(-1), abc(api.MSt, 0, 0, 1, 0)), 1, verdict{}},
		{"a Store of all, with the Const", kept, laid(eret(-1), li(2, 5), abc(api.MSt, 0, 0, 1, 0)), 2, verdict{api.ErrUse, 0, 0}},
		{"a Store by a temp", kept, laid(eret(-1), imm(api.MAddI, 3, 0, 5), liw(4, -5), abc(api.MStX, 0, 3, 4, 1)), 4, verdict{}},
		{"a Mul inside", product, laid(eret(3), abc(api.MMadd, 3, 0, 1, 0)), 3, verdict{}},
		{"a Mul inside, and beside", product, laid(eret(3), abc(api.MMul, 2, 0, 1, 0), abc(api.MMadd, 3, 0, 1, 0)), 6, verdict{api.ErrUse, 0, 0}},
		{"a Mul beside", product, laid(eret(3), abc(api.MMul, 2, 0, 1, 0), abc(api.MAdd, 3, 2, 0, 0)), 4, verdict{}},
		{"no Mul", product, laid(eret(3), abc(api.MAdd, 3, 2, 0, 0)), 1, verdict{api.ErrUse, 0, 0}},
		{"a compare inside", less, laid(etwo(api.EBlt, 0, 2, 1, 2), li(2, 9)), 2, verdict{}},
		{"a compare inside, and beside", less, laid(etwo(api.EBlt, 0, 2, 1, 2), li(2, 9), abc(api.MLt, 3, 0, 2, 0)), 3, verdict{api.ErrUse, 0, 1}},
		{"a compare beside", less, laid(ebnz(3, 1, 2), li(2, 9), abc(api.MLt, 3, 0, 2, 0)), 3, verdict{}},
		{"no compare", less, laid(ebnz(3, 1, 2), li(2, 9)), 2, verdict{api.ErrUse, 0, 1}},
		{"no compare, nor Const", less, laid(ebnz(3, 1, 2)), 1, verdict{api.ErrUse, 0, 0}},
		{"a compare inside, no Const", less, laid(etwo(api.EBlt, 0, 2, 1, 2)), 1, verdict{api.ErrUse, 0, 0}},
		{"another compare", less, laid(etwo(api.EBltu, 0, 2, 1, 2), li(2, 9)), 2, verdict{api.ErrCover, 0, 2}},
		{"the other way on", less, laid(etwo(api.EBlt, 0, 2, 2, 1), li(2, 9)), 2, verdict{api.ErrCover, 0, 2}},
		{"a Switch", table3, laid(ejt(3, 1, 1, 2), imm(api.MAddI, 3, 0, 5)), 3, verdict{}},
		{"a Switch, another way", table3, laid(ejt(3, 1, 2, 2), imm(api.MAddI, 3, 0, 5)), 3, verdict{api.ErrCover, 0, 2}},
		{"a Switch, shorter", table3, laid(ejt(3, 1, 2), imm(api.MAddI, 3, 0, 5)), 3, verdict{api.ErrCover, 0, 2}},
		{"a Call", called, laid(eret(4), li(2, 5), mcall(4, 7, 1, 2)), 7, verdict{}},
		{"a Call of another", called, laid(eret(4), li(2, 5), mcall(4, 8, 1, 2)), 7, verdict{api.ErrCover, 0, 1}},
		{"a Call, other operands", called, laid(eret(4), li(2, 5), mcall(4, 7, 2, 1)), 7, verdict{api.ErrCover, 0, 1}},
		{"a Call, fewer operands", called, laid(eret(4), li(2, 5), mcall(4, 7, 1)), 7, verdict{api.ErrCover, 0, 1}},
		{"a Call without its Const", called, laid(eret(4), mcall(4, 7, 1, 2)), 6, verdict{api.ErrUse, 0, 0}},
		{"no Call", called, laid(eret(4), li(2, 5)), 1, verdict{api.ErrCover, 0, 1}},
		{"a Mulw", halves, laid(eret(3), api.Mach{Op: api.MMulw, D: 2, E: 3, A: 0, B: 1}), 4, verdict{}},
		{"a Mulw, halves the other way", halves, laid(eret(3), api.Mach{Op: api.MMulw, D: 3, E: 2, A: 0, B: 1}), 4, verdict{api.ErrCover, 0, 0}},
		{"no Mulw", halves, laid(eret(3)), 0, verdict{api.ErrCover, 0, 0}},
		{"a value twice", twice, laid(eret(3), li(2, 5), abc(api.MAdd, 3, 2, 2, 0)), 2, verdict{}},
		{"a value twice, and inside", twice, laid(eret(3), imm(api.MAddI, 3, 2, 5)), 1, verdict{api.ErrCover, 0, 0}},
		{"a value that nothing takes", dead, laid(eret(-1), li(2, 5)), 1, verdict{}},
		{"a value that nothing takes, left out", dead, laid(eret(-1)), 0, verdict{api.ErrCover, 0, 0}},
	} {
		mayBe(t, x.name, x.f, x.m)
		hold(t, x.name, x.f, tile.All(), x.m, x.cost, x.want)
	}
}

// TestTable: what the table has, and what it costs there (P9.1).
func TestTable(t *testing.T) {
	f := shown(branch(3, 1, 2), con(2, 5), two(api.Add, 3, 0, 2))
	inside := laid(ebnz(3, 1, 2), imm(api.MAddI, 3, 0, 5))
	beside := laid(ebnz(3, 1, 2), li(2, 5), abc(api.MAdd, 3, 0, 2, 0))
	for _, x := range []struct {
		name string
		l    []api.Tile
		m    api.MFunc
		cost int
		want verdict
	}{
		{"just what it needs", table(16, 40, 33, 500), inside, 540, verdict{}},
		{"no tile of the Add inside", table(33, 1, 3, 1, 1, 1, 2, 1), inside, 2, verdict{api.ErrCover, 0, 1}},
		{"no tile of the Add beside", table(33, 1, 16, 1, 1, 1, 2, 1), beside, 2, verdict{api.ErrCover, 0, 1}},
		{"no tile of the Const", table(33, 1, 16, 1, 3, 1, 2, 1), beside, 2, verdict{api.ErrCover, 0, 0}},
		{"no tile of the Branch", table(16, 1, 37, 1, 34, 1), inside, 2, verdict{api.ErrCover, 0, 2}},
		{"no tiles", nil, inside, 0, verdict{api.ErrCover, 0, 1}},
		{"the cheapest last", table(16, 3, 33, 0, 16, 7, 16, 2), inside, 2, verdict{}},
		{"the cheapest between", table(16, 3, 33, 0, 16, 1, 16, 2), inside, 1, verdict{}},
		{"not the cheapest", table(16, 3, 33, 0, 16, 1, 16, 2), inside, 3, verdict{e: api.ErrCost}},
		{"not the last", table(16, 3, 33, 0, 16, 1, 16, 2), inside, 2, verdict{e: api.ErrCost}},
		{"the cheapest Branch", table(33, 1000, 16, 0, 33, 9), inside, 9, verdict{}},
		{"for nothing", table(33, 0, 16, 0), inside, 0, verdict{}},
		{"at most", table(33, 1000, 1, 1000, 3, 1000, 16, 0), beside, 3000, verdict{}},
		{"whatever costs less", usual(16, 0), beside, 3, verdict{}},
	} {
		mayBe(t, x.name, f, x.m)
		hold(t, x.name, f, x.l, x.m, x.cost, x.want)
	}
	plain := function(0, block(jump(1)), block(api.Term{Kind: api.Trap}))
	hold(t, "no tiles for what needs none", plain, nil, code(0, mblock(ej(1)), mblock(etrap(0))), 0, verdict{})
}

// TestStore: a Store makes nothing, whatever its Dst says (P9.1).
func TestStore(t *testing.T) {
	for _, dst := range []int{0, 1, 2, 3, -5, math.MinInt, math.MaxInt, 8191} {
		kept := api.Ins{Op: api.Store, Dst: dst, Two: dst, Args: []int{0, 0}}
		f := function(1, block(ret(2), con(1, 5), kept, two(api.Add, 2, 0, 1)))
		stored, inside := abc(api.MSt, 0, 0, 0, 0), imm(api.MAddI, 2, 0, 5)
		hold(t, "a Store", f, tile.All(), code(1, mblock(eret(2), stored, inside)), 2, verdict{})
		hold(t, "no Store", f, tile.All(), code(1, mblock(eret(2), inside)), 1, verdict{api.ErrCover, 0, 1})
		hold(t, "a Store, both", f, tile.All(), code(1, mblock(eret(2), li(1, 5), stored, inside)), 3, verdict{api.ErrUse, 0, 0})
	}
	// Value 0 is foldable, and no Store makes it, though what has no meaning there is 0.
	f := function(0, block(ret(3), con(1, 7), con(2, 8), store(1, 2, 0), con(0, 5), two(api.Add, 3, 1, 0)))
	stored, inside := abc(api.MSt, 0, 1, 2, 0), imm(api.MAddI, 3, 1, 5)
	hold(t, "value 0", f, tile.All(), code(0, mblock(eret(3), li(1, 7), li(2, 8), stored, inside)), 4, verdict{})
	f = function(0, block(ret(3), con(0, 5), con(1, 7), con(2, 8), store(1, 2, 0), two(api.Add, 3, 1, 0)))
	hold(t, "value 0 ahead", f, tile.All(), code(0, mblock(eret(3), li(1, 7), li(2, 8), stored, inside)), 4, verdict{})
	f = function(0, block(ret(3), con(1, 7), con(0, 5), store(1, 1, 0), two(api.Add, 3, 1, 0)))
	hold(t, "value 0, next a Store", f, tile.All(), code(0, mblock(eret(3), li(1, 7), abc(api.MSt, 0, 1, 1, 0), inside)), 3, verdict{})
}
