package choose_test

import (
	"slices"
	"testing"

	"jacquard/api"
	"jacquard/choose"
	"jacquard/mach"
	"jacquard/sample"
	"jacquard/tile"
)

// way is a tile that fits a place: what it costs, and the places in the block that make the foldable values that it takes.
type way struct {
	cost int
	on   []int
}

// ways are those of all places of a block, one by one.
func ways(r reckoner, b int) [][]way {
	var all [][]way
	for place := range len(r.f.Blocks[b].Ins) + 1 {
		var l []way
		note := func(cost int, takes []int) {
			w := way{cost: cost}
			for _, at := range r.foldable(takes) {
				w.on = append(w.on, at[1])
			}
			l = append(l, w)
		}
		if r.needsNone(b, place) {
			note(0, r.f.Blocks[b].Term.Args)
		}
		for _, its := range r.l {
			if takes, _, ok := tile.Match(r.f, b, place, its.Pat); ok {
				note(its.Cost, takes)
			}
		}
		all = append(all, l)
	}
	return all
}

// covers goes over all covers of a block, and tells what each costs: place by place from the term back, as what is taken stands ahead of it.
func covers(r reckoner, b int, tell func(cost int)) {
	all := ways(r, b)
	taken := make([]bool, len(all))
	var from func(place, cost int)
	from = func(place, cost int) {
		if place < 0 {
			tell(cost)
			return
		}
		if !r.free(b, place) && !taken[place] {
			from(place-1, cost)
			return
		}
		for _, w := range all[place] {
			for _, at := range w.on {
				taken[at] = true
			}
			from(place-1, cost+w.cost)
			for _, at := range w.on {
				taken[at] = false
			}
		}
	}
	from(len(all)-1, 0)
}

// isShort tells whether all covers of a block can be gone over: there are at most as many as ways at all places, times each other.
func isShort(r reckoner, b int) bool {
	count := 1
	for _, l := range ways(r, b) {
		if count *= max(1, len(l)); count > 20000 {
			return false
		}
	}
	return true
}

// TestLeast: of all covers that there are none costs less (P8.4).
func TestLeast(t *testing.T) {
	next, held, all, lacks := sample.Numbers(29), 0, 0, 0
	for _, f := range sample.Folded(31, 1500) {
		l := anyTable(next)
		r := reckonerOf(f, l)
		long := false
		for b := range f.Blocks {
			long = long || !isShort(r, b)
		}
		if long {
			continue
		}
		want, covered := 0, true
		for b := range f.Blocks {
			least := -1
			covers(r, b, func(cost int) {
				all++
				if least < 0 || cost < least {
					least = cost
				}
			})
			covered = covered && least >= 0
			want += least
		}
		m, cost, e := choose.Func(f, l)
		if !covered {
			lacks++
			if e != api.ErrCover || cost != 0 || m.Blocks != nil {
				t.Fatalf("%v, %v: %v %d %v", f, l, m, cost, e)
			}
			continue
		}
		held++
		if e != api.OK || cost != want {
			t.Fatalf("%v, %v: %d %v, not %d", f, l, cost, e, want)
		}
	}
	if held < 300 || lacks < 100 || all < 20000 {
		t.Errorf("only %d functions, with %d covers, and %d without", held, all, lacks)
	}
}

// TestMore: with more tiles, or cheaper ones, a function costs no more (P8.4).
func TestMore(t *testing.T) {
	next, held, less := sample.Numbers(37), 0, 0
	for _, f := range sample.Folded(41, 2000) {
		l := anyTable(next)
		_, was, e := choose.Func(f, l)
		if e != api.OK {
			continue
		}
		held++
		more := slices.Clone(l)
		for _, its := range anyTable(next) {
			more = slices.Insert(more, next(len(more)+1), its)
		}
		cheaper := slices.Clone(l)
		for n := range cheaper {
			if next(3) == 0 {
				cheaper[n].Cost = next(cheaper[n].Cost + 1)
			}
		}
		for _, other := range [][]api.Tile{more, cheaper} {
			_, is, e := choose.Func(f, other)
			if e != api.OK || is > was {
				t.Fatalf("%v: by %v %d, by %v %d %v", f, l, was, other, is, e)
			}
			if is < was {
				less++
			}
		}
	}
	if held < 300 || less < 300 {
		t.Errorf("only %d functions, %d that cost less", held, less)
	}
}

// TestDoes: what is told may be machine code, and does what the function does (P8.4).
func TestDoes(t *testing.T) {
	next, ends := sample.Numbers(43), map[int]int{}
	run := func(f api.Func, in api.Input) {
		l := anyTable(next)
		if e, _, _ := tile.Covers(l, f); e != api.OK {
			l = tile.All()
		}
		m, _, e := choose.Func(f, l)
		if fault, b, p := mach.Func(m); e != api.OK || fault != api.OK {
			t.Fatalf("%v, %v: %v %v: %v at %d, %d", f, l, m, e, fault, b, p)
		}
		end, same := sample.Beside(f, m, in)
		if !same {
			t.Fatalf("%v, %v: %v does another thing", f, in, m)
		}
		ends[end]++
	}
	for _, x := range sample.Runs(47, 6000) {
		run(x.F, x.In)
	}
	for _, f := range sample.Folded(53, 3000) {
		run(f, sample.Full(next))
	}
	if ends[api.EndRet] < 1000 || ends[api.EndTrap] < 1000 {
		t.Errorf("only these runs end: %v", ends)
	}
}
