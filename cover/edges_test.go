package cover_test

import (
	"reflect"
	"slices"
	"testing"

	"jacquard/api"
	"jacquard/check"
	"jacquard/cover"
	"jacquard/mach"
	"jacquard/sample"
	"jacquard/tile"
)

// holdLeast holds that of a function and a table an error, or a least cost, is told, and that just this is the cheapest.
func holdLeast(t *testing.T, name string, f api.Func, l []api.Tile, want int, fault api.Errno) {
	t.Helper()
	if n, e := cover.Least(f, l); n != want || e != fault {
		t.Errorf("%s: %d %v, not %d %v", name, n, e, want, fault)
	}
	for _, cost := range []int{want - 1, want, want + 1, -1, 0} {
		if cover.Cheapest(f, l, cost) != (fault == api.OK && cost == want) {
			t.Errorf("%s: Cheapest of %d", name, cost)
		}
	}
}

// TestLeast: the least costs of what is written out (P9.2).
func TestLeast(t *testing.T) {
	sum := []api.Ins{con(2, 5), two(api.Add, 3, 0, 2)}
	far := append(slices.Clone(sum), load(4, 3, 1))
	product := []api.Ins{two(api.Mul, 2, 0, 1), two(api.Add, 3, 2, 0)}
	less := []api.Ins{con(2, 9), two(api.Lt, 3, 0, 2)}
	blocks := function(2, block(branch(3, 1, 2), less...), block(ret(5), con(4, 1), two(api.Add, 5, 0, 4)), block(ret(7), con(6, 40000), two(api.Xor, 7, 0, 6)))
	for _, x := range []struct {
		name string
		f    api.Func
		l    []api.Tile
		want int
	}{
		{"a Ret of nothing", shown(ret()), nil, 0},
		{"a Ret of a parameter", shown(ret(1)), nil, 0},
		{"a Trap", shown(api.Term{Kind: api.Trap}), nil, 0},
		{"a Jump", shown(jump(1)), nil, 0},
		{"a Ret of a Const", shown(ret(2), con(2, 5)), usual(), 1},
		{"a Ret of a great Const", shown(ret(2), con(2, 32768)), usual(), 2},
		{"a Const that nothing takes", shown(ret(), con(2, 5)), usual(), 1},
		{"a Const inside", shown(ret(3), sum...), usual(), 1},
		{"a Const beside, as that costs less", shown(ret(3), sum...), table(16, 4, 3, 1, 1, 2), 3},
		{"a Const inside, as it can not stand beside", shown(ret(3), sum...), table(3, 0, 16, 1000), 1000},
		{"a Const beside, by its cheapest", shown(ret(3), sum...), table(16, 9, 3, 1, 1, 4, 2, 3, 1, 2, 3, 2), 3},
		{"a Load of it all", shown(ret(4), far...), usual(), 2},
		{"a Load of the sum", shown(ret(4), far...), usual(23, 0), 1},
		{"a Load of nothing inside", shown(ret(4), far...), usual(23, 0, 1, 0, 3, 0), 0},
		{"a Load by a temp", shown(ret(4), load(4, 0, 256)), usual(), 4},
		{"a Mul inside", shown(ret(3), product...), usual(), 3},
		{"a Mul beside", shown(ret(3), product...), usual(5, 1), 2},
		{"a compare inside", shown(branch(3, 1, 2), less...), usual(), 2},
		{"a compare beside", shown(branch(3, 1, 2), less...), usual(33, 0, 13, 0), 1},
		{"a Switch", shown(turn(3, 1, 1, 2), sum...), usual(), 3},
		{"blocks", blocks, usual(), 2 + 1 + 3},
	} {
		if e, _, _ := tile.Covers(x.l, x.f); e != api.OK {
			t.Fatalf("%s: %v", x.name, e)
		}
		holdLeast(t, x.name, x.f, x.l, x.want, api.OK)
	}
}

// TestNoLeast: what tile.Covers tells is told, and nothing else (P9.2).
func TestNoLeast(t *testing.T) {
	fine := function(1, block(ret(2), con(1, 5), two(api.Add, 2, 0, 1)))
	wrong := function(1, block(ret(2), con(1, 5), two(api.Add, 2, 0, 3)))
	long := slices.Repeat(tile.All(), 28)
	for _, x := range []struct {
		name string
		f    api.Func
		l    []api.Tile
		want api.Errno
	}{
		{"no function", api.Func{}, usual(), api.ErrArg},
		{"a value that is not made", wrong, usual(), api.ErrArg},
		{"such a one, and no tiles", wrong, nil, api.ErrArg},
		{"too many instructions", function(1, block(ret(), make([]api.Ins, 4096)...)), usual(), api.ErrArg},
		{"no tiles", fine, nil, api.ErrCover},
		{"no tile of its Const", fine, table(3, 1), api.ErrCover},
		{"no tile of its Add", fine, table(1, 1, 2, 1), api.ErrCover},
		{"a pattern", fine, usual(38, 1), api.ErrTile},
		{"a pattern, and a function", wrong, usual(0, 1), api.ErrTile},
		{"a cost", fine, usual(1, 1001), api.ErrCost},
		{"a cost below 0", wrong, usual(1, -1), api.ErrCost},
		{"too many tiles", fine, long, api.ErrMany},
		{"too many tiles, and a function", wrong, long, api.ErrMany},
	} {
		holdLeast(t, x.name, x.f, x.l, 0, x.want)
	}
}

// TestSpoilt: functions, and machine code, with something wrong are told so, and have no least cost (P9.1, P9.2, R2).
func TestSpoilt(t *testing.T) {
	next, functions, codes := sample.Numbers(59), 0, 0
	for _, f := range sample.Folded(61, 1200) {
		x, ok := tilerOf(f, tile.All())
		if !ok {
			t.Fatalf("%v: not covered", f)
		}
		m, cost := x.lay(x.tiles(next), upFrom(check.Top(f)))
		if s := sample.Spoilt(next, f); !check.Right(s) {
			functions++
			hold(t, "spoilt", s, tile.All(), m, cost, verdict{e: api.ErrArg})
			holdLeast(t, "spoilt", s, tile.All(), 0, api.ErrArg)
		}
		s := sample.CopiedCode(m)
		b := &s.Blocks[next(len(s.Blocks))]
		b.End.Op = next(10)
		for n := range b.Ins {
			b.Ins[n].Op += next(3) - 1
		}
		if !mach.Right(s) {
			codes++
			hold(t, "spoilt code", f, tile.All(), s, cost, verdict{e: api.ErrArg})
		}
	}
	if functions < 500 || codes < 500 {
		t.Errorf("only %d functions, and %d machine codes, that may not be", functions, codes)
	}
}

// chain is a function of as many instructions as there may be, each taken by the next; behind them a Store by a temp.
func chain() api.Func {
	b := block(ret(4094))
	for v := 1; v < 4095; v += 2 {
		b.Ins = append(b.Ins, con(v, -128), two(api.Add, v+1, v-1, v))
	}
	b.Ins = append(b.Ins, store(0, 0, 256))
	return function(1, b)
}

// TestLong: a block of as many instructions as there may be, inside and beside (P9.1, P9.2).
func TestLong(t *testing.T) {
	f := chain()
	inside, beside := code(1, mblock(eret(4094))), code(1, mblock(eret(4094)))
	in, by := &inside.Blocks[0].Ins, &beside.Blocks[0].Ins
	for v := 1; v < 4095; v += 2 {
		*in = append(*in, imm(api.MAddI, v+1, v-1, -128))
		*by = append(*by, li(v, -128), abc(api.MAdd, v+1, v-1, v, 0))
	}
	last := []api.Mach{liw(4095, 256), abc(api.MStX, 0, 0, 4095, 0)}
	*in, *by = append(*in, last...), append(*by, last...)
	l := usual(3, 1000, 1, 1000)
	for n := range l {
		if pat := l[n].Pat; pat == 1 || pat == 3 {
			l[n].Cost = 1000
		}
	}
	mayBe(t, "inside", f, inside)
	mayBe(t, "beside", f, beside)
	for _, x := range []struct {
		name string
		m    api.MFunc
		cost int
		want verdict
	}{
		{"inside", inside, 2047 + 3, verdict{}},
		{"beside", beside, 4094*1000 + 3, verdict{}},
		{"beside, another cost", beside, 4094*1000 + 2, verdict{e: api.ErrCost}},
	} {
		if got := told(f, l, x.m, x.cost); got != x.want {
			t.Errorf("%s: %v, not %v", x.name, got, x.want)
		}
	}
	if n, e := cover.Least(f, l); n != 2047+3 || e != api.OK {
		t.Errorf("%d %v", n, e)
	}
	(*by)[4092].Imm++
	if got := told(f, l, beside, 0); got != (verdict{api.ErrCover, 0, 4092}) {
		t.Errorf("one off: %v", got)
	}
	(*in)[2046].Imm++
	if got := told(f, l, inside, 0); got != (verdict{api.ErrCover, 0, 4093}) {
		t.Errorf("one off: %v", got)
	}
	// A fault at the end is found behind all others of the same kind.
	*in = slices.Concat((*in)[:2046], []api.Mach{li(4093, -128), imm(api.MAddI, 4094, 4092, -128)}, last)
	if got := told(f, l, inside, 0); got != (verdict{api.ErrUse, 0, 4092}) {
		t.Errorf("both: %v", got)
	}
}

// TestWide: as many blocks as there may be, with tables as long as they may be, and as many tiles (P9.1, P9.2).
func TestWide(t *testing.T) {
	f, m := function(1, make([]api.Block, api.MaxBlocks)...), code(1, make([]api.MBlock, api.MaxBlocks)...)
	for b := range f.Blocks {
		end := turn(0)
		for n := range api.MaxTable + 1 {
			end.To = append(end.To, 1+(b+n)%(api.MaxBlocks-1))
		}
		f.Blocks[b] = block(end, con(1+b, int32(b)<<8))
		m.Blocks[b] = mblock(ejt(0, slices.Clone(end.To)...), liw(1+b, int32(b)<<8))
	}
	l := slices.Concat(slices.Repeat(tile.All(), 27), slices.Repeat(table(37, 1), 25))
	if len(l) != api.MaxTiles {
		t.Fatalf("%d tiles", len(l))
	}
	mayBe(t, "wide", f, m)
	if got := told(f, l, m, 512*2+512); got != (verdict{}) {
		t.Errorf("%v", got)
	}
	// The numbers of the first 128 blocks fit into 16 bits.
	if n, e := cover.Least(f, l); n != 128+384*2+512 || e != api.OK {
		t.Errorf("%d %v", n, e)
	}
	to := m.Blocks[511].End.To
	to[63], to[64] = to[64], to[63]
	if got := told(f, l, m, 512*2+512); got != (verdict{api.ErrCover, 511, 1}) {
		t.Errorf("%v", got)
	}
}

// TestMuch: machine code of as many instructions as there may be, and a function of few (P9.1).
func TestMuch(t *testing.T) {
	f := function(1, block(ret(0), load(1, 0, 256)))
	m := code(1, mblock(eret(0), liw(2, 256), abc(api.MLdX, 1, 0, 2, 0)))
	for len(m.Blocks[0].Ins) < 16383 {
		m.Blocks[0].Ins = append(m.Blocks[0].Ins, li(3, 1))
	}
	mayBe(t, "much", f, m)
	hold(t, "much", f, tile.All(), m, 4, verdict{api.ErrMatch, 0, 1})
	m.Blocks[0].Ins[16382] = li(2, 1)
	hold(t, "much, and the temp", f, tile.All(), m, 4, verdict{api.ErrReg, 0, 0})
}

// TestKept: what is handed in stays as it was, and is not kept; the same calls have the same answers (R1, R3, R4).
func TestKept(t *testing.T) {
	next := sample.Numbers(67)
	for _, x := range anyOf(71, 300, 300) {
		lays, _ := tilerOf(x.f, x.l)
		m, cost := lays.lay(slipped(next, lays, lays.tiles(next)), temps(next, check.Top(x.f)))
		f, l, c := sample.Copied(x.f), slices.Clone(x.l), sample.CopiedCode(m)
		want := told(f, l, c, cost)
		least, e := cover.Least(f, l)
		if !reflect.DeepEqual(f, sample.Copied(x.f)) || !slices.Equal(l, x.l) || !reflect.DeepEqual(c, sample.CopiedCode(m)) {
			t.Fatalf("%v, %v, %v: changed to %v, %v, %v", x.f, x.l, m, f, l, c)
		}
		sample.Scribble(f)
		sample.ScribbleCode(c)
		clear(l)
		if got := told(x.f, x.l, m, cost); got != want {
			t.Fatalf("%v, %v, %v: %v, then %v", x.f, x.l, m, want, got)
		}
		if n, again := cover.Least(x.f, x.l); n != least || again != e {
			t.Fatalf("%v, %v: %d %v, then %d %v", x.f, x.l, least, e, n, again)
		}
	}
}
