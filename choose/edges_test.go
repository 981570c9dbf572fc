package choose_test

import (
	"math"
	"reflect"
	"slices"
	"testing"

	"jacquard/api"
	"jacquard/check"
	"jacquard/choose"
	"jacquard/mach"
	"jacquard/sample"
	"jacquard/tile"
)

// holdNone holds that of a function and a table an error is told, and nothing else.
func holdNone(t *testing.T, name string, f api.Func, l []api.Tile, want api.Errno) {
	t.Helper()
	if m, cost, e := choose.Func(f, l); e != want || cost != 0 || !reflect.DeepEqual(m, api.MFunc{}) {
		t.Errorf("%s: %v %d %v, not %v", name, m, cost, e, want)
	}
	for b := -1; b <= len(f.Blocks); b++ {
		if row := choose.Tiles(f, l, b); len(row) > 0 {
			t.Errorf("%s: the tiles of %d are %v", name, b, row)
		}
	}
}

// TestErrors: what tile.Covers tells is told, and nothing else (P8.2, P8.3).
func TestErrors(t *testing.T) {
	fine := function(1, block(ret(2), con(1, 5), two(api.Add, 2, 0, 1)))
	wrong := function(1, block(ret(2), con(1, 5), two(api.Add, 2, 0, 3)))
	// Its temp would be too many, too.
	high := function(1, block(ret(8191), load(8191, 0, 300)))
	long := slices.Repeat(tile.All(), 28)
	for _, x := range []struct {
		name string
		f    api.Func
		l    []api.Tile
		want api.Errno
	}{
		{"no function", api.Func{}, tile.All(), api.ErrArg},
		{"a value that is not made", wrong, tile.All(), api.ErrArg},
		{"such a one, and no tiles", wrong, nil, api.ErrArg},
		{"a block that is not reached", function(1, fine.Blocks[0], block(ret())), tile.All(), api.ErrArg},
		{"too many instructions", function(1, block(ret(), make([]api.Ins, 4096)...)), tile.All(), api.ErrArg},
		{"no tiles", fine, nil, api.ErrCover},
		{"no tile of its Const", fine, table(3, 1), api.ErrCover},
		{"no tile of its Add", fine, table(1, 1, 2, 1), api.ErrCover},
		{"no tile for a temp, though it would be too many", high, table(23, 1), api.ErrCover},
		{"a pattern", fine, usual(38, 1), api.ErrTile},
		{"a pattern, and a function", wrong, usual(0, 1), api.ErrTile},
		{"a pattern, and a temp", high, usual(-1, 1), api.ErrTile},
		{"a cost", fine, usual(1, 1001), api.ErrCost},
		{"a cost below 0", wrong, usual(1, -1), api.ErrCost},
		{"too many tiles", fine, long, api.ErrMany},
		{"too many tiles, and a function", wrong, long, api.ErrMany},
	} {
		holdNone(t, x.name, x.f, x.l, x.want)
	}
}

// TestSpoilt: functions of all kinds with something wrong (P8.2, P8.3, R2).
func TestSpoilt(t *testing.T) {
	next, count := sample.Numbers(59), 0
	for _, f := range sample.Folded(61, 1200) {
		if f = sample.Spoilt(next, f); !check.Right(f) {
			count++
			holdNone(t, "spoilt", f, tile.All(), api.ErrArg)
		}
	}
	if count < 500 {
		t.Errorf("only %d that may not be", count)
	}
}

// TestBlocks: of a block that there is not nothing is told (P8.2).
func TestBlocks(t *testing.T) {
	f := function(1, block(jump(1), con(1, 5)), block(ret(0)))
	for _, b := range []int{-1, 2, 3, math.MinInt, math.MaxInt, 1 << 32} {
		if row := choose.Tiles(f, tile.All(), b); len(row) > 0 {
			t.Errorf("%d: %v", b, row)
		}
	}
}

// TestTemps: temps are numbers below 8192, and only those that are laid count (P8.3).
func TestTemps(t *testing.T) {
	near, far := load(1, 0, 255), load(1, 0, 256)
	for _, x := range []struct {
		name string
		top  int // the greatest value
		l    []api.Ins
		more []int // tiles beside the usual ones
		want api.Errno
	}{
		{"all values, and no temp", 8191, []api.Ins{near}, nil, api.OK},
		{"all values, and a temp", 8191, []api.Ins{far}, nil, api.ErrMany},
		{"all values, and a Store's temp", 8191, []api.Ins{store(0, 0, -1), near}, nil, api.ErrMany},
		{"all values, and a cheaper temp", 8191, []api.Ins{near}, []int{26, 0}, api.ErrMany},
		{"all values, and a temp that costs as much", 8191, []api.Ins{near}, []int{26, 2}, api.OK},
		{"room for one", 8190, []api.Ins{far}, nil, api.OK},
		{"room for one, and two", 8190, []api.Ins{far, store(0, 0, 256)}, nil, api.ErrMany},
		{"room for two", 8189, []api.Ins{store(0, 0, -1), far}, nil, api.OK},
		{"room for two, and three", 8189, []api.Ins{store(0, 0, -1), far, store(0, 1, 1<<30)}, nil, api.ErrMany},
	} {
		f := function(1, block(jump(1), con(x.top, 5)), block(ret(x.top), x.l...))
		if !check.Right(f) {
			t.Fatalf("%s: it may not be", x.name)
		}
		got := hold(t, x.name, f, usual(x.more...))
		if got.e != x.want || got.e == api.OK && !mach.Right(got.m) || len(got.tiles[1]) != len(x.l)+1 {
			t.Errorf("%s: %v, not %v", x.name, got, x.want)
		}
	}
}

// TestLong: a block of as many instructions as there may be, each taken by the next: all that it costs hangs on one place (P8.1, P8.3).
func TestLong(t *testing.T) {
	b := block(ret(4094))
	for v := 1; v < 4095; v += 2 {
		b.Ins = append(b.Ins, con(v, 40000), two(api.Add, v+1, v-1, v))
	}
	f := function(1, b)
	f.Blocks[0].Ins = append(f.Blocks[0].Ins, store(0, 0, 256))
	l := usual(3, 1000, 2, 1000)
	l[2].Cost, l[1].Cost = 1000, 1000
	m, cost, e := choose.Func(f, l)
	if e != api.OK || cost != 4094*1000+3 || len(m.Blocks) != 1 || len(m.Blocks[0].Ins) != 4096 {
		t.Fatalf("%d %v", cost, e)
	}
	if last := m.Blocks[0].Ins[4095]; last.Op != api.MStX || last.B != 4095 {
		t.Errorf("%v", last)
	}
	for n := 0; n < 4094; n += 2 {
		f.Blocks[0].Ins[n].Imm = -128
	}
	row := choose.Tiles(f, l, 0)
	if len(row) != 4096 || row[0] != -1 || row[1] != 15 || row[4092] != -1 || row[4093] != 15 || row[4094] != 29 || row[4095] != -1 {
		t.Errorf("%v", row)
	}
	if m, cost, e = choose.Func(f, l); e != api.OK || cost != 2047+3 || len(m.Blocks[0].Ins) != 2047+2 {
		t.Errorf("%d %v", cost, e)
	}
}

// TestWide: as many blocks as there may be, with tables as long as they may be, and as many tiles (P8.3).
func TestWide(t *testing.T) {
	f := function(1, make([]api.Block, api.MaxBlocks)...)
	for b := range f.Blocks {
		end := turn(0)
		for n := range api.MaxTable + 1 {
			end.To = append(end.To, 1+(b+n)%(api.MaxBlocks-1))
		}
		f.Blocks[b] = block(end, con(1+b, int32(b)<<8))
	}
	l := slices.Concat(slices.Repeat(tile.All(), 27), slices.Repeat(table(37, 1), 25))
	if len(l) != api.MaxTiles {
		t.Fatalf("%d tiles", len(l))
	}
	m, cost, e := choose.Func(f, l)
	// The numbers of the first 128 blocks fit into 16 bits.
	if want := 128 + 384*2 + 512; e != api.OK || cost != want || !mach.Right(m) {
		t.Fatalf("%d %v, not %d", cost, e, want)
	}
	for b := range f.Blocks {
		its := m.Blocks[b]
		if !slices.Equal(its.End.To, f.Blocks[b].Term.To) || len(its.Ins) != 1 || its.Ins[0].Imm != int32(b)<<8 {
			t.Fatalf("%d: %v", b, its)
		}
	}
	if row := choose.Tiles(f, l, 511); !slices.Equal(row, []int{1, 27 * 37}) {
		t.Errorf("%v", row)
	}
}

// behind lays something behind each row of machine code, and tells whether it stayed as it was.
func behind(m api.MFunc) bool {
	was := sample.CopiedCode(m)
	for _, x := range m.Blocks {
		for _, p := range x.Phis {
			_ = append(p.In, api.In{From: 98, Val: 98})
		}
		for _, i := range x.Ins {
			_ = append(i.Args, 98)
		}
		_, _, _ = append(x.End.To, 98), append(x.Phis, api.Phi{Dst: 98}), append(x.Ins, api.Mach{Op: 98})
	}
	return reflect.DeepEqual(was, sample.CopiedCode(m))
}

// TestKept: what is handed in stays as it was, and is not kept; what is told is the caller's, and the same each time (R1, R3, R4).
func TestKept(t *testing.T) {
	next := sample.Numbers(67)
	for _, x := range sample.Folded(71, 600) {
		f, l := sample.Copied(x), tile.All()
		for n := range l {
			l[n].Cost = next(5)
		}
		was := slices.Clone(l)
		first, second := asked(f, l), asked(f, l)
		want := chosen{sample.CopiedCode(first.m), first.cost, first.e, nil}
		for _, row := range first.tiles {
			want.tiles = append(want.tiles, slices.Clone(row))
		}
		if !reflect.DeepEqual(f, sample.Copied(x)) || !slices.Equal(l, was) {
			t.Fatalf("%v, %v: changed to %v, %v", x, was, f, l)
		}
		if !reflect.DeepEqual(first, second) || !behind(first.m) {
			t.Fatalf("%v: %v, and then %v", x, first, second)
		}
		sample.ScribbleCode(second.m)
		for _, row := range second.tiles {
			clear(row)
		}
		if !alike(first, want) || !reflect.DeepEqual(f, sample.Copied(x)) {
			t.Fatalf("%v: an answer shares something", x)
		}
		sample.Scribble(f)
		clear(l)
		if !alike(first, want) || !alike(asked(x, was), want) {
			t.Fatalf("%v: something was kept", x)
		}
	}
}
