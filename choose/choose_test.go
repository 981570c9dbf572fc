package choose_test

import (
	"math"
	"reflect"
	"slices"
	"testing"

	"jacquard/api"
	"jacquard/check"
	"jacquard/choose"
	"jacquard/mach"
	"jacquard/sample"
	"jacquard/tile"
)

// Short forms for what is written out.
var (
	ret, jump, branch, turn = sample.Ret, sample.Jump, sample.Branch, sample.Switch
	con, two, load, store   = sample.Const, sample.Two, sample.Load, sample.Store
	block, function         = sample.Block, sample.Func
	table, usual, anyTable  = sample.Table, sample.Usual, sample.AnyTable
)

// asked is what the program tells of a function and a table.
func asked(f api.Func, l []api.Tile) chosen {
	var x chosen
	x.m, x.cost, x.e = choose.Func(f, l)
	for b := range f.Blocks {
		x.tiles = append(x.tiles, choose.Tiles(f, l, b))
	}
	return x
}

// alike tells whether two that are told are the same in all, be rows without items nil or empty.
func alike(a, b chosen) bool {
	return a.cost == b.cost && a.e == b.e && slices.EqualFunc(a.tiles, b.tiles, slices.Equal) &&
		reflect.DeepEqual(sample.CopiedCode(a.m), sample.CopiedCode(b.m))
}

// hold holds what is told of a function and a table against the document's words.
func hold(t *testing.T, name string, f api.Func, l []api.Tile) chosen {
	t.Helper()
	got, want := asked(f, l), second(f, l)
	if !alike(got, want) {
		t.Fatalf("%s: %v, %v: %v, not %v", name, f, l, got, want)
	}
	return got
}

// TestSecond: functions and tables of all kinds, by the document's words (P8.1, P8.2, P8.3).
func TestSecond(t *testing.T) {
	next, covered, chose, inner := sample.Numbers(5), 0, make([]int, 38), 0
	for _, f := range sample.Folded(11, 1000) {
		for range 3 {
			l := anyTable(next)
			x := hold(t, "any", f, l)
			if x.e != api.OK {
				continue
			}
			covered++
			for b, row := range x.tiles {
				for place, n := range row {
					if n >= 0 {
						chose[l[n].Pat]++
					} else if place < len(f.Blocks[b].Ins) {
						inner++
					}
				}
			}
		}
	}
	for pat := 1; pat <= 37; pat++ {
		if chose[pat] < 25 {
			t.Errorf("%s: chosen only %d times", tile.Name(pat), chose[pat])
		}
	}
	if covered < 1000 || inner < 3000 {
		t.Errorf("only %d covered, with %d inside", covered, inner)
	}
}

// TestUsual: functions that do much, by the usual table, which covers them all (P8.2, P8.3).
func TestUsual(t *testing.T) {
	for _, x := range sample.Runs(7, 1500) {
		if got := hold(t, "usual", x.F, tile.All()); got.e != api.OK || !mach.Right(got.m) {
			t.Fatalf("%v: %v", x.F, got)
		}
	}
}

// TestExample: the document's (P8.2, P8.3).
func TestExample(t *testing.T) {
	f := function(1, block(ret(2), con(1, 5), two(api.Add, 2, 0, 1)))
	if got := choose.Tiles(f, tile.All(), 0); !slices.Equal(got, []int{-1, 15, -1}) {
		t.Errorf("%v", got)
	}
	m, cost, e := choose.Func(f, tile.All())
	want := api.MFunc{Params: 1, Blocks: []api.MBlock{{Ins: []api.Mach{{Op: api.MAddI, D: 2, Imm: 5}}, End: api.End{Op: api.ERet, A: 2}}}}
	if e != api.OK || cost != 1 || !reflect.DeepEqual(m, want) {
		t.Errorf("%v %d %v", m, cost, e)
	}
}

// shown is the first block of a function with blocks behind that are gone on to.
func shown(params int, end api.Term, l ...api.Ins) api.Func {
	f := function(params, block(end, l...))
	for range slices.Max(append([]int{0}, end.To...)) {
		f.Blocks = append(f.Blocks, block(ret()))
	}
	return f
}

// TestTiles: the tiles of the first block, written out (P8.1, P8.2).
func TestTiles(t *testing.T) {
	sum := []api.Ins{con(2, 5), two(api.Add, 3, 0, 2)}
	far := []api.Ins{con(2, 5), two(api.Add, 3, 0, 2), load(4, 3, 1)}
	product := []api.Ins{two(api.Mul, 2, 0, 1), two(api.Add, 3, 2, 0)}
	deep := []api.Ins{con(2, 6), two(api.Mul, 3, 0, 2), con(4, 7), two(api.Add, 5, 3, 4), load(6, 5, 0)}
	less := []api.Ins{con(2, 9), two(api.Lt, 3, 0, 2)}
	trap := api.Term{Kind: api.Trap, Imm: 3}
	for _, x := range []struct {
		name string
		f    api.Func
		l    []api.Tile
		want []int
		cost int
	}{
		{"nothing but a Ret", shown(0, ret()), nil, []int{-1}, 0},
		{"nothing but a Ret of a parameter", shown(1, ret(0)), nil, []int{-1}, 0},
		{"nothing but a Trap", shown(0, trap), nil, []int{-1}, 0},
		{"nothing but a Jump", shown(0, jump(1)), nil, []int{-1}, 0},
		{"a Ret takes a Const", shown(0, ret(0), con(0, 5)), tile.All(), []int{0, -1}, 1},
		{"a Ret takes a great Const", shown(0, ret(0), con(0, 1<<20)), tile.All(), []int{1, -1}, 2},
		{"nothing takes a Const", shown(0, ret(), con(0, 5)), tile.All(), []int{0, -1}, 1},
		{"a Trap behind", shown(0, trap, con(0, 5)), tile.All(), []int{0, -1}, 1},
		{"a Const inside", shown(2, ret(3), sum...), tile.All(), []int{-1, 15, -1}, 1},
		{"a Const inside, though it costs as much beside", shown(2, ret(3), sum...), table(16, 3, 3, 1, 1, 2), []int{-1, 0, -1}, 3},
		{"a Const beside, as that stands first", shown(2, ret(3), sum...), table(3, 1, 16, 3, 1, 2), []int{2, 0, -1}, 3},
		{"a Const beside, as that costs less", shown(2, ret(3), sum...), table(16, 4, 3, 1, 1, 2), []int{2, 1, -1}, 3},
		{"a Const inside, as it can not stand beside", shown(2, ret(3), sum...), table(3, 0, 16, 1000), []int{-1, 1, -1}, 1000},
		{"a Const for nothing", shown(2, ret(3), sum...), table(3, 0, 1, 0, 16, 0), []int{1, 0, -1}, 0},
		{"the cheaper of a pattern", shown(2, ret(3), sum...), table(16, 3, 3, 9, 16, 2, 16, 2, 16, 7), []int{-1, 2, -1}, 2},
		{"the cheapest Const", shown(0, ret(0), con(0, 5)), table(2, 5, 1, 3, 2, 2, 1, 2), []int{2, -1}, 2},
		{"a Load takes it all", shown(2, ret(4), far...), tile.All(), []int{-1, -1, 23, -1}, 2},
		{"a Load takes the sum", shown(2, ret(4), far...), usual(23, 0), []int{-1, 15, 37, -1}, 1},
		{"a Load takes a sum of two", shown(2, ret(4), two(api.Add, 3, 0, 1), load(4, 3, 0)), tile.All(), []int{-1, 24, -1}, 2},
		{"a Load by a temp", shown(2, ret(4), two(api.Add, 3, 0, 1), load(4, 3, 256)), tile.All(), []int{2, 25, -1}, 5},
		{"a Store of a Const", shown(2, ret(), con(2, 5), store(0, 2, 0)), tile.All(), []int{0, 26, -1}, 2},
		{"a Mul inside", shown(2, ret(3), product...), tile.All(), []int{-1, 21, -1}, 3},
		{"a Mul beside", shown(2, ret(3), product...), usual(5, 1), []int{37, 2, -1}, 2},
		{"a Mul inside, its Const beside, a Load of both", shown(2, ret(6), deep...), tile.All(), []int{0, 4, -1, -1, 23, -1}, 6},
		{"a Mul inside, a Load of the sum", shown(2, ret(6), deep...), usual(22, 0, 23, 0), []int{0, -1, 0, 37, 38, -1}, 2},
		{"a compare inside", shown(2, branch(3, 1, 2), less...), tile.All(), []int{0, -1, 34}, 2},
		{"a compare beside", shown(2, branch(3, 1, 2), less...), usual(33, 0, 13, 0), []int{0, 38, 37}, 1},
		{"another compare", shown(2, branch(3, 1, 2), con(2, 9), two(api.Xor, 3, 0, 2)), tile.All(), []int{0, 7, 32}, 3},
		{"a Switch of a sum", shown(2, turn(3, 1, 1, 2), sum...), tile.All(), []int{-1, 15, 36}, 3},
		{"a Call takes values", shown(2, ret(), con(2, 5), con(3, 6), api.Ins{Op: api.Call, Dst: 4, Args: []int{3, 2}}), tile.All(), []int{0, 0, 30, -1}, 8},
		{"a value twice", shown(2, ret(3), con(2, 5), two(api.Add, 3, 2, 2)), tile.All(), []int{0, 2, -1}, 2},
		{"a value for two", shown(2, ret(2), con(2, 5), two(api.Add, 3, 0, 2)), tile.All(), []int{0, 2, -1}, 2},
		{"a value of another block", shown(2, jump(1), con(2, 5)), tile.All(), []int{0, -1}, 1},
		{"a Mulw", shown(2, ret(3), api.Ins{Op: api.Mulw, Dst: 2, Two: 3, Args: []int{0, 1}}), tile.All(), []int{31, -1}, 4},
	} {
		if e, b, p := check.Func(x.f); e != api.OK {
			t.Fatalf("%s: it may not be: %v %d %d", x.name, e, b, p)
		}
		got := hold(t, x.name, x.f, x.l)
		if got.e != api.OK || got.cost != x.cost || !slices.Equal(got.tiles[0], x.want) {
			t.Errorf("%s: %v, not %v, %d", x.name, got, x.want, x.cost)
		}
	}
}

// TestBetween: a value that is taken in its block, and by another block, or by a phi of its own, is not inner to a tile (P8.1, P8.2).
func TestBetween(t *testing.T) {
	f := function(2, block(jump(1), con(2, 5), two(api.Add, 3, 0, 2)), block(ret(2)))
	if got := hold(t, "another block", f, tile.All()); !slices.Equal(got.tiles[0], []int{0, 2, -1}) {
		t.Errorf("another block: %v", got)
	}
	round := api.Phi{Dst: 2, In: []api.In{{From: 0, Val: 1}, {From: 1, Val: 3}}}
	f = function(2, block(jump(1)), block(branch(0, 1, 2), con(3, 5)), block(ret(2)))
	f.Blocks[1].Phis = []api.Phi{round}
	if got := hold(t, "a phi of its own", f, tile.All()); !slices.Equal(got.tiles[1], []int{0, 32}) || !reflect.DeepEqual(got.m.Blocks[1].Phis, []api.Phi{round}) {
		t.Errorf("a phi of its own: %v", got)
	}
}

// TestMakesNothing: a Store is covered by itself, whatever its Dst says (P8.2).
func TestMakesNothing(t *testing.T) {
	for _, dst := range []int{0, 1, 2, 3, -5, math.MinInt, math.MaxInt, 8191} {
		kept := api.Ins{Op: api.Store, Dst: dst, Two: dst, Args: []int{0, 0}}
		f := function(1, block(ret(2), con(1, 5), kept, two(api.Add, 2, 0, 1)))
		if got := hold(t, "a Store", f, tile.All()); !slices.Equal(got.tiles[0], []int{-1, 26, 15, -1}) || got.cost != 2 {
			t.Errorf("a Store to %d: %v", dst, got)
		}
	}
}

// TestCode: machine code, written out: of several blocks, with their phis, temps and ends (P8.3).
func TestCode(t *testing.T) {
	f := function(2,
		block(branch(4, 1, 2), load(2, 0, 300), con(3, 7), two(api.Eq, 4, 2, 3)),
		block(jump(3), store(0, 1, -1), load(5, 1, 1<<20)),
		block(turn(6, 3, 3, 4), con(9, 40000), two(api.Sub, 6, 1, 9)),
		block(ret(7)),
		block(api.Term{Kind: api.Trap, Imm: -9}),
	)
	f.Blocks[3].Phis = []api.Phi{{Dst: 7, In: []api.In{{From: 1, Val: 5}, {From: 2, Val: 1}}}}
	want := api.MFunc{Params: 2, Blocks: []api.MBlock{
		{
			Ins: []api.Mach{{Op: api.MLiw, D: 10, Imm: 300}, {Op: api.MLdX, D: 2, A: 0, B: 10}, {Op: api.MLi, D: 3, Imm: 7}},
			End: api.End{Op: api.EBeq, A: 2, B: 3, To: []int{1, 2}},
		},
		{
			Ins: []api.Mach{{Op: api.MLiw, D: 11, Imm: -1}, {Op: api.MStX, A: 0, B: 11, C: 1}, {Op: api.MLiw, D: 12, Imm: 1 << 20}, {Op: api.MLdX, D: 5, A: 1, B: 12}},
			End: api.End{Op: api.EJ, To: []int{3}},
		},
		{
			Ins: []api.Mach{{Op: api.MLiw, D: 9, Imm: 40000}, {Op: api.MSub, D: 6, A: 1, B: 9}},
			End: api.End{Op: api.EJt, A: 6, To: []int{3, 3, 4}},
		},
		{Phis: f.Blocks[3].Phis, End: api.End{Op: api.ERet, A: 7}},
		{End: api.End{Op: api.ETrap, Imm: -9}},
	}}
	got := hold(t, "blocks", f, tile.All())
	if cost := 4 + 1 + 1 + 3 + 4 + 2 + 1 + 2; got.e != api.OK || got.cost != cost || !reflect.DeepEqual(sample.CopiedCode(got.m), sample.CopiedCode(want)) {
		t.Errorf("%v, not %v, %d", got, want, cost)
	}
}
