package tile_test

import (
	"math"
	"reflect"
	"slices"
	"testing"

	"jacquard/api"
	"jacquard/check"
	"jacquard/sample"
	"jacquard/tile"
)

// of is a table of patterns, each of cost 1.
func of(pats ...int) []api.Tile {
	var l []api.Tile
	for _, pat := range pats {
		l = append(l, api.Tile{Pat: pat, Cost: 1})
	}
	return l
}

// without is the table of all patterns but some.
func without(pats ...int) []api.Tile {
	return slices.DeleteFunc(tile.All(), func(t api.Tile) bool { return slices.Contains(pats, t.Pat) })
}

// TestAll: a tile of each pattern, of its usual cost (P6.6); each time it is the caller's own (R1).
func TestAll(t *testing.T) {
	var want []api.Tile
	for n, cost := range []int{1, 2, 1, 1, 3, 1, 1, 1, 1, 1, 1, 1, 1, 1, 12, 1, 1, 1, 1, 1, 1, 3, 2, 2, 2, 4, 1, 1, 1, 3, 6, 4, 1, 1, 1, 1, 2} {
		want = append(want, api.Tile{Pat: n + 1, Cost: cost})
	}
	first, second := tile.All(), tile.All()
	if len(first) != 37 || !slices.Equal(first, want) || !slices.Equal(second, want) {
		t.Fatalf("%v, then %v", first, second)
	}
	clear(first)
	_ = append(first[:3], first...)
	if third := tile.All(); !slices.Equal(second, want) || !slices.Equal(third, want) {
		t.Errorf("%v, then %v", second, third)
	}
}

// TestCheck: what is wrong with a table first (P6.4).
func TestCheck(t *testing.T) {
	for _, x := range []struct {
		name string
		l    []api.Tile
		want api.Errno
		at   int
	}{
		{"none", nil, api.OK, 0},
		{"an empty one", []api.Tile{}, api.OK, 0},
		{"all", tile.All(), api.OK, 0},
		{"twice the same", of(1, 1, 37, 1), api.OK, 0},
		{"costs at both ends", []api.Tile{{Pat: 1, Cost: 0}, {Pat: 37, Cost: 1000}}, api.OK, 0},
		{"1024", make([]api.Tile, 1024), api.ErrTile, 0},
		{"1024 that may be", slices.Repeat(of(5), 1024), api.OK, 0},
		{"1025", make([]api.Tile, 1025), api.ErrMany, 0},
		{"1025 that may be", slices.Repeat(of(5), 1025), api.ErrMany, 0},
		{"pattern 0", of(1, 2, 0), api.ErrTile, 2},
		{"pattern 38", of(1, 38, 0), api.ErrTile, 1},
		{"pattern -1", of(-1), api.ErrTile, 0},
		{"patterns far off", of(3, 4, 5, math.MinInt), api.ErrTile, 3},
		{"patterns that go round", of(3, 1<<32+1), api.ErrTile, 1},
		{"cost -1", []api.Tile{{Pat: 1, Cost: 1}, {Pat: 2, Cost: -1}}, api.ErrCost, 1},
		{"cost 1001", []api.Tile{{Pat: 1, Cost: 1001}, {Pat: 0, Cost: 1}}, api.ErrCost, 0},
		{"costs far off", []api.Tile{{Pat: 1, Cost: 1}, {Pat: 1, Cost: 1}, {Pat: 2, Cost: math.MaxInt}}, api.ErrCost, 2},
		{"costs that go round", []api.Tile{{Pat: 1, Cost: 1 << 32}}, api.ErrCost, 0},
		{"both in one tile", []api.Tile{{Pat: 1, Cost: 1}, {Pat: 40, Cost: -1}}, api.ErrTile, 1},
		{"both, the cost first", []api.Tile{{Pat: 1, Cost: -1}, {Pat: 40, Cost: 1}}, api.ErrCost, 0},
		{"both, the pattern first", []api.Tile{{Pat: 40, Cost: 1}, {Pat: 1, Cost: -1}}, api.ErrTile, 0},
		{"the last of 1024", append(slices.Repeat(of(5), 1023), api.Tile{Pat: 5, Cost: 1001}), api.ErrCost, 1023},
	} {
		if e, at := tile.Check(x.l); e != x.want || at != x.at {
			t.Errorf("%s: %v %d, not %v %d", x.name, e, at, x.want, x.at)
		}
		f := function(0, block(ret()))
		if e, b, p := tile.Covers(x.l, f); e != x.want || b != 0 || p != 0 {
			t.Errorf("%s: Covers %v %d %d", x.name, e, b, p)
		}
		if e, b, p := tile.Covers(x.l, api.Func{}); x.want != api.OK && e != x.want || x.want == api.OK && e != api.ErrArg || b != 0 || p != 0 {
			t.Errorf("%s: Covers of nothing %v %d %d", x.name, e, b, p)
		}
	}
}

// coverer covers a function that may be by the document's words.
type coverer struct {
	l    []api.Tile
	f    api.Func
	made map[int][2]int // where instructions make values
	can  map[[2]int]int // what is known by now: 1, if it can be covered, else 2
}

// covered tells whether what stands at a place can be covered.
func (c *coverer) covered(b, place int) bool {
	at := [2]int{b, place}
	if c.can[at] == 0 {
		c.can[at] = 2
		if c.look(b, place) {
			c.can[at] = 1
		}
	}
	return c.can[at] == 1
}

// look looks for a tile at a place.
func (c *coverer) look(b, place int) bool {
	if t := c.f.Blocks[b].Term; place == len(c.f.Blocks[b].Ins) && t.Kind != api.Branch && t.Kind != api.Switch {
		return c.all(t.Args)
	}
	for _, its := range c.l {
		if x := second(c.f, b, place, its.Pat, 0); x.ok && c.all(x.takes) {
			return true
		}
	}
	return false
}

// all tells whether all of such values that are foldable can be covered.
func (c *coverer) all(values []int) bool {
	for _, v := range values {
		if at, ok := c.made[v]; ok && check.Foldable(c.f, v) && !c.covered(at[0], at[1]) {
			return false
		}
	}
	return true
}

// covers tells the first place that can not be covered, by the document's words.
func covers(l []api.Tile, f api.Func) (e api.Errno, block, place int) {
	c := coverer{l: l, f: f, made: map[int][2]int{}, can: map[[2]int]int{}}
	for b := range f.Blocks {
		for n, i := range f.Blocks[b].Ins {
			if i.Op != api.Store {
				c.made[i.Dst] = [2]int{b, n}
			}
		}
	}
	for b := range f.Blocks {
		for n, i := range f.Blocks[b].Ins {
			free := i.Op == api.Store || i.Op == api.Mulw || !check.Foldable(f, i.Dst)
			if free && !c.covered(b, n) {
				return api.ErrCover, b, n
			}
		}
		if !c.covered(b, len(f.Blocks[b].Ins)) {
			return api.ErrCover, b, len(f.Blocks[b].Ins)
		}
	}
	return api.OK, 0, 0
}

// some is a table: of some patterns, or of all but a few, in any order.
func some(next func(int) int) []api.Tile {
	var l []api.Tile
	most := next(2) == 0
	for pat := 1; pat <= 37; pat++ {
		if most && next(14) > 0 || !most && next(3) > 0 {
			l = slices.Insert(l, next(len(l)+1), api.Tile{Pat: pat, Cost: next(1001)})
		}
	}
	return l
}

// TestCovers: functions of all kinds, and tables of all kinds, by the document's words (P6.5).
func TestCovers(t *testing.T) {
	next, covered, folded := sample.Numbers(7), 0, 0
	for _, f := range sample.Folded(17, 2500) {
		for range 4 {
			l := some(next)
			e, b, p := covers(l, f)
			if ge, gb, gp := tile.Covers(l, f); ge != e || gb != b || gp != p {
				t.Fatalf("%v, %v: %v %d %d, not %v %d %d", l, f, ge, gb, gp, e, b, p)
			}
			if e == api.OK {
				covered++
			} else if fits(l, f, b, p) {
				folded++
			}
		}
	}
	if covered < 1000 || folded < 500 {
		t.Errorf("only %d covered, and %d for want of what they take", covered, folded)
	}
}

// fits tells whether a tile of a table fits a place, be what it takes covered or not.
func fits(l []api.Tile, f api.Func, b, place int) bool {
	for _, its := range l {
		if second(f, b, place, its.Pat, 0).ok {
			return true
		}
	}
	return false
}

// TestFirst: the first place that can not be covered, written out (P6.5).
func TestFirst(t *testing.T) {
	shape := function(2, block(ret(4), con(2, 5), two(api.Add, 3, 0, 2), load(4, 3, 1)))
	stored := function(2, block(ret(), con(2, 5), store(0, 2, 0)))
	compared := function(2, block(jump(1)), block(branch(3, 2, 2), con(2, 40000), two(api.Lt, 3, 0, 2)), block(ret()))
	for _, x := range []struct {
		name         string
		l            []api.Tile
		f            api.Func
		want         api.Errno
		block, place int
	}{
		{"a Ret, and no tiles", nil, function(0, block(ret())), api.OK, 0, 0},
		{"a Ret of a parameter, and no tiles", nil, function(1, block(ret(0))), api.OK, 0, 0},
		{"a Jump and a Trap, and no tiles", nil, function(0, block(jump(1)), block(api.Term{Kind: api.Trap})), api.OK, 0, 0},
		{"a Branch, and no tiles", nil, function(1, block(jump(1)), block(branch(0, 2, 2)), block(ret())), api.ErrCover, 1, 0},
		{"a Switch, and no tiles", of(33, 34, 35, 36), function(1, block(turn(0, 1, 1)), block(ret())), api.ErrCover, 0, 0},
		{"a Switch", of(37), function(1, block(turn(0, 1, 1)), block(ret())), api.OK, 0, 0},
		{"a Ret of a Const", nil, function(0, block(ret(0), con(0, 5))), api.ErrCover, 0, 1},
		{"a Ret of a Const that is an operand twice", nil, function(0, block(branch(0, 1, 1), con(0, 5)), block(ret(0))), api.ErrCover, 0, 0},
		{"a Const that is no operand", of(33), function(1, block(ret(0), con(1, 5))), api.ErrCover, 0, 0},
		{"a Const of another block", of(33), function(1, block(jump(1), con(1, 5)), block(ret(1))), api.ErrCover, 0, 0},
		{"a Ret of a great Const, li", of(1), function(0, block(ret(0), con(0, 40000))), api.ErrCover, 0, 1},
		{"a Ret of a great Const, liw", of(2), function(0, block(ret(0), con(0, 40000))), api.OK, 0, 0},
		{"a Const and an Add inside", of(24), shape, api.OK, 0, 0},
		{"a Const inside the Add", of(16, 23), shape, api.OK, 0, 0},
		{"each by itself", of(1, 3, 23), shape, api.OK, 0, 0},
		{"the Add by itself, without the Const", of(3, 23, 26), shape, api.ErrCover, 0, 2},
		{"no Load", of(1, 2, 3, 16), shape, api.ErrCover, 0, 2},
		{"a Load at a sum, but not of 1 more", of(1, 2, 25), shape, api.ErrCover, 0, 2},
		{"by a temp", of(1, 3, 26), shape, api.OK, 0, 0},
		{"a Store of a Const", of(27), stored, api.ErrCover, 0, 1},
		{"a Store of a Const, with li", of(27, 1), stored, api.OK, 0, 0},
		{"a compare inside, without its Const", of(35), compared, api.ErrCover, 1, 2},
		{"a compare inside", of(35, 2), compared, api.OK, 0, 0},
		{"a compare by itself", of(33, 13, 2), compared, api.OK, 0, 0},
		{"a compare by itself, without its Const", of(33, 13, 1), compared, api.ErrCover, 1, 2},
		{"another compare inside", of(34, 36, 2), compared, api.ErrCover, 1, 2},
		{"all but bnz", without(33), compared, api.OK, 0, 0},
		{"all but blt and lt", without(35, 13), compared, api.ErrCover, 1, 2},
	} {
		if e, b, p := check.Func(x.f); e != api.OK {
			t.Fatalf("%s: it may not be: %v %d %d", x.name, e, b, p)
		}
		if e, b, p := tile.Covers(x.l, x.f); e != x.want || b != x.block || p != x.place {
			t.Errorf("%s: %v %d %d, not %v %d %d", x.name, e, b, p, x.want, x.block, x.place)
		}
	}
}

// TestMakesNothing: a Store has to be covered, whatever its Dst says, and so has a Mulw (P6.5).
func TestMakesNothing(t *testing.T) {
	for _, dst := range []int{0, 1, 2, -5, math.MinInt, math.MaxInt, 8191} {
		f := function(1, block(ret(2), con(1, 5), api.Ins{Op: api.Store, Dst: dst, Two: dst, Args: []int{0, 0}}, two(api.Add, 2, 0, 1)))
		if e, b, p := tile.Covers(of(16), f); e != api.ErrCover || b != 0 || p != 1 {
			t.Errorf("a Store to %d: %v %d %d", dst, e, b, p)
		}
		if e, b, p := tile.Covers(of(16, 27), f); e != api.OK || b != 0 || p != 0 {
			t.Errorf("a Store to %d: %v %d %d", dst, e, b, p)
		}
	}
	f := function(1, block(ret(1), api.Ins{Op: api.Mulw, Dst: 1, Two: 2, Args: []int{0, 0}}))
	if e, b, p := tile.Covers(without(32), f); e != api.ErrCover || b != 0 || p != 0 {
		t.Errorf("a Mulw: %v %d %d", e, b, p)
	}
}

// TestArg: a function that may not be is not covered (P6.5).
func TestArg(t *testing.T) {
	for name, f := range wrong() {
		for _, l := range [][]api.Tile{nil, tile.All()} {
			if e, b, p := tile.Covers(l, f); e != api.ErrArg || b != 0 || p != 0 {
				t.Errorf("%s: %v %d %d", name, e, b, p)
			}
		}
		if e, b, p := tile.Covers(of(0), f); e != api.ErrTile || b != 0 || p != 0 {
			t.Errorf("%s, by no table: %v %d %d", name, e, b, p)
		}
	}
}

// TestEach: each pattern that alone covers an operation is needed; all others are not (P6.5, P6.7).
func TestEach(t *testing.T) {
	needed := []int{2, 3, 4, 5, 6, 7, 8, 9, 10, 11, 12, 13, 14, 15, 26, 30, 31, 32, 33, 37}
	var misses []int
	for _, f := range sample.Folded(29, 400) {
		if e, b, p := tile.Covers(of(needed...), f); e != api.OK || b != 0 || p != 0 {
			t.Fatalf("%v: %v %d %d", f, e, b, p)
		}
		for _, pat := range needed {
			if e, _, _ := tile.Covers(without(pat), f); e != api.OK && !slices.Contains(misses, pat) {
				misses = append(misses, pat)
			}
		}
	}
	slices.Sort(misses)
	if !slices.Equal(misses, needed) {
		t.Errorf("%v are needed", misses)
	}
}

// TestMore: all patterns cover all functions, and with more tiles no less is covered (P6.7).
func TestMore(t *testing.T) {
	next := sample.Numbers(23)
	for _, f := range sample.Folded(19, 3000) {
		if e, b, p := tile.Covers(tile.All(), f); e != api.OK || b != 0 || p != 0 {
			t.Fatalf("%v: %v %d %d", f, e, b, p)
		}
		l := some(next)
		more := slices.Concat(l, some(next))
		e, b, p := tile.Covers(l, f)
		me, mb, mp := tile.Covers(more, f)
		if e == api.OK && me != api.OK || me != api.OK && (mb < b || mb == b && mp < p) {
			t.Fatalf("%v, %v: %v %d %d; by %v: %v %d %d", f, l, e, b, p, more, me, mb, mp)
		}
	}
}

// long is a function of one block with as many instructions as there may be: each Add has a Const inside, and takes the one ahead.
func long() api.Func {
	b := block(ret(4094))
	for v := 1; v < 4095; v += 2 {
		b.Ins = append(b.Ins, con(v, 40000), two(api.Add, v+1, v-1, v))
	}
	b.Ins = append(b.Ins, con(8000, 0))
	return function(1, b)
}

// TestLong: however long a way it is to what can not be covered (P6.5).
func TestLong(t *testing.T) {
	f := long()
	if e, b, p := check.Func(f); e != api.OK {
		t.Fatal(e, b, p)
	}
	if e, b, p := tile.Covers(tile.All(), f); e != api.OK || b != 0 || p != 0 {
		t.Errorf("all: %v %d %d", e, b, p)
	}
	if e, b, p := tile.Covers(of(1, 3), f); e != api.ErrCover || b != 0 || p != 4095 {
		t.Errorf("without liw: %v %d %d", e, b, p)
	}
	f.Blocks[0].Ins[0].Imm = 7
	for n := 2; n < 4094; n += 2 {
		f.Blocks[0].Ins[n].Imm = 127
	}
	if e, b, p := tile.Covers(of(1, 16), f); e != api.OK || b != 0 || p != 0 {
		t.Errorf("small ones: %v %d %d", e, b, p)
	}
	takes, inner, ok := tile.Match(f, 0, 4093, 16)
	if !ok || !slices.Equal(takes, []int{4092}) || !slices.Equal(inner, []int{4093}) {
		t.Errorf("addi: %v %v %v", takes, inner, ok)
	}
	f.Blocks[0].Ins = append(f.Blocks[0].Ins, con(8001, 0))
	if e, b, p := tile.Covers(tile.All(), f); e != api.ErrArg || b != 0 || p != 0 {
		t.Errorf("one too many: %v %d %d", e, b, p)
	}
}

// TestTables: a table, and a function, stay as they were (R1), and are told of the same each time (R4).
func TestTables(t *testing.T) {
	next := sample.Numbers(31)
	for _, x := range sample.Folded(37, 500) {
		f, l := sample.Copied(x), some(next)
		was := slices.Clone(l)
		e, b, p := tile.Covers(l, f)
		again, ab, ap := tile.Covers(l, f)
		n, at := tile.Check(l)
		if n != api.OK || at != 0 || e != again || b != ab || p != ap || !slices.Equal(l, was) || !reflect.DeepEqual(f, sample.Copied(x)) {
			t.Fatalf("%v, %v: %v %d %d, then %v %d %d", x, was, e, b, p, again, ab, ap)
		}
	}
}
