package cover_test

import (
	"slices"
	"testing"

	"jacquard/api"
	"jacquard/check"
	"jacquard/choose"
	"jacquard/cover"
	"jacquard/sample"
	"jacquard/tile"
)

// TestEvery: of all covers that there are each is accepted, with its cost; none costs less than the least, and one costs that (P9.2, P9.3).
func TestEvery(t *testing.T) {
	next, held, all, lacks := sample.Numbers(3), 0, 0, 0
	for _, f := range sample.Folded(13, 1000) {
		l := sample.AnyTable(next)
		x, ok := tilerOf(f, l)
		if !ok {
			lacks++
			if n, e := cover.Least(f, l); n != 0 || e != api.ErrCover || cover.Cheapest(f, l, 0) {
				t.Fatalf("%v, %v: %d %v", f, l, n, e)
			}
			continue
		}
		if !every(80, func(pick func(int) int) { x.tiles(pick) }) {
			continue
		}
		least, top := -1, check.Top(f)
		every(80, func(pick func(int) int) {
			m, cost := x.lay(x.tiles(pick), upFrom(top))
			if got := told(f, l, m, cost); got != (verdict{}) {
				t.Fatalf("%v, %v: %v, %d: %v", f, l, m, cost, got)
			}
			if all++; least < 0 || cost < least {
				least = cost
			}
		})
		held++
		if n, e := cover.Least(f, l); n != least || e != api.OK {
			t.Fatalf("%v, %v: %d %v, not %d", f, l, n, e, least)
		}
		for cost := least - 2; cost <= least+2; cost++ {
			if cover.Cheapest(f, l, cost) != (cost == least) {
				t.Fatalf("%v, %v: Cheapest of %d, not just of %d", f, l, cost, least)
			}
		}
	}
	if held < 250 || lacks < 250 || all < 5000 {
		t.Errorf("only %d functions, with %d covers, and %d without", held, all, lacks)
	}
}

// covered is a function that may be, a table that covers it, and an input.
type covered struct {
	f  api.Func
	l  []api.Tile
	in api.Input
}

// anyOf are functions of all kinds, some that fold much, and some whose runs come far.
func anyOf(seed uint32, folded, runs int) []covered {
	next := sample.Numbers(seed)
	var all []covered
	add := func(f api.Func, in api.Input) {
		l := sample.AnyTable(next)
		if e, _, _ := tile.Covers(l, f); e != api.OK {
			l = tile.All()
		}
		all = append(all, covered{f, l, in})
	}
	for _, f := range sample.Folded(seed+1, folded) {
		add(f, sample.Full(next))
	}
	for _, x := range sample.Runs(seed+2, runs) {
		add(x.F, x.In)
	}
	return all
}

// temps are numbers from the first on, in any order.
func temps(next func(int) int, first int) func() int {
	var used []int
	return func() int {
		for {
			n := first + next(3+2*len(used))
			if next(8) == 0 {
				n = api.MaxValues - 1 - next(3+2*len(used))
			}
			if !slices.Contains(used, n) {
				used = append(used, n)
				return n
			}
		}
	}
}

// TestAny: whatever tiles are chosen, with whatever temps, make a cover, which costs no less than the least, and does what the function does (P9.1, P9.3).
func TestAny(t *testing.T) {
	next, ends, more := sample.Numbers(7), map[int]int{}, 0
	for _, x := range anyOf(17, 800, 1000) {
		lays, ok := tilerOf(x.f, x.l)
		if !ok {
			t.Fatalf("%v, %v: not covered", x.f, x.l)
		}
		least, e := cover.Least(x.f, x.l)
		if e != api.OK {
			t.Fatalf("%v, %v: %v", x.f, x.l, e)
		}
		for range 2 {
			m, cost := lays.lay(lays.tiles(next), temps(next, check.Top(x.f)))
			if got := told(x.f, x.l, m, cost); got != (verdict{}) || cost < least {
				t.Fatalf("%v, %v: %v, %d: %v, least %d", x.f, x.l, m, cost, got, least)
			}
			if got := told(x.f, x.l, m, cost+1-2*next(2)); got != (verdict{e: api.ErrCost}) {
				t.Fatalf("%v, %v: %v, not %d: %v", x.f, x.l, m, cost, got)
			}
			if cost > least {
				more++
			}
			end, same := sample.Beside(x.f, m, x.in)
			if !same {
				t.Fatalf("%v, %v: %v does another thing", x.f, x.in, m)
			}
			ends[end]++
		}
	}
	if more < 1500 || ends[api.EndRet] < 500 || ends[api.EndTrap] < 500 {
		t.Errorf("only %d that cost more; %v", more, ends)
	}
}

// TestChosen: what layer 8 chooses is accepted, and is the cheapest (P9.1, P9.2).
func TestChosen(t *testing.T) {
	for _, x := range anyOf(23, 1000, 1000) {
		m, cost, e := choose.Func(x.f, x.l)
		if e != api.OK {
			t.Fatalf("%v, %v: %v", x.f, x.l, e)
		}
		if got := told(x.f, x.l, m, cost); got != (verdict{}) || !cover.Cheapest(x.f, x.l, cost) {
			t.Fatalf("%v, %v: %v, %d: %v", x.f, x.l, m, cost, got)
		}
	}
}

// slipped is what tiles are, with some that lack, and some that are too many.
func slipped(next func(int) int, x tiler, tiles map[[2]int]fit) map[[2]int]fit {
	for b := range x.f.Blocks {
		for place := range len(x.f.Blocks[b].Ins) {
			at := [2]int{b, place}
			if len(x.fits[at]) == 0 || next(8) > 0 {
				continue
			}
			if _, ok := tiles[at]; ok && (next(4) > 0 || !x.free(b, place)) {
				delete(tiles, at)
			} else {
				tiles[at] = x.fits[at][next(len(x.fits[at]))]
			}
		}
	}
	return tiles
}

// TestSlipped: roots that lack, or are too many, and temps that are anything, as the document's words have it (P9.1).
func TestSlipped(t *testing.T) {
	next, seen := sample.Numbers(11), map[api.Errno]int{}
	for _, x := range anyOf(29, 1200, 300) {
		lays, _ := tilerOf(x.f, x.l)
		for range 3 {
			temp := temps(next, check.Top(x.f))
			if next(3) == 0 {
				temp = func() int { return check.Top(x.f) + next(8) - 4 + max(0, 4-check.Top(x.f)) }
			}
			m, cost := lays.lay(slipped(next, lays, lays.tiles(next)), temp)
			want := second(x.f, x.l, m, cost)
			seen[want.e]++
			if got := told(x.f, x.l, m, cost); got != want {
				t.Fatalf("%v, %v: %v, %d: %v, not %v", x.f, x.l, m, cost, got, want)
			}
		}
	}
	for _, e := range []api.Errno{api.OK, api.ErrCover, api.ErrUse, api.ErrReg} {
		if seen[e] < 100 {
			t.Errorf("only %d of %v", seen[e], e)
		}
	}
}

// TestChanged: whatever is changed, what is accepted is what the document's words accept, and does what the function does (P9.1, P9.3).
func TestChanged(t *testing.T) {
	next, seen, differ := sample.Numbers(13), map[api.Errno]int{}, 0
	for _, x := range anyOf(31, 1000, 1000) {
		lays, _ := tilerOf(x.f, x.l)
		laid, sum := lays.lay(lays.tiles(next), temps(next, check.Top(x.f)))
		for range 4 {
			c := changed{next, sample.Copied(x.f), slices.Clone(x.l), sample.CopiedCode(laid), sum}
			for range 1 + next(2) {
				c.change()
			}
			want := second(c.f, c.l, c.m, c.cost)
			seen[want.e]++
			if got := told(c.f, c.l, c.m, c.cost); got != want {
				t.Fatalf("%v, %v: %v, %d: %v, not %v", c.f, c.l, c.m, c.cost, got, want)
			}
			if want.e != api.OK {
				continue
			}
			if !alike(c.m, laid) || !alike(c.f, x.f) {
				differ++
			}
			if _, same := sample.Beside(c.f, c.m, x.in); !same {
				t.Fatalf("%v, %v: %v does another thing", c.f, x.in, c.m)
			}
		}
	}
	for _, e := range []api.Errno{api.OK, api.ErrArg, api.ErrUse, api.ErrCover, api.ErrCost, api.ErrReg, api.ErrMatch} {
		if seen[e] < 30 {
			t.Errorf("only %d of %v", seen[e], e)
		}
	}
	if differ < 200 {
		t.Errorf("only %d that are accepted as they were changed", differ)
	}
}
