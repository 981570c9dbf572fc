package live_test

import (
	"maps"
	"math"
	"slices"
	"testing"

	"jacquard/api"
	"jacquard/choose"
	"jacquard/live"
	"jacquard/mach"
	"jacquard/sample"
	"jacquard/tile"
)

// far are numbers that are no register's.
var far = []int{math.MinInt, -1 << 32, -64, -1, api.MaxValues, api.MaxValues + 64, 1 << 32, math.MaxInt}

// byProgram is what the program tells.
func byProgram(m api.MFunc, regs []int) told {
	w := told{ranges: map[int][]api.Range{}, together: map[[2]int]bool{}, most: live.Most(m)}
	w.in, w.out = live.Sets(m)
	for _, at := range spots(m) {
		w.at = append(w.at, live.At(m, at.block, at.place))
	}
	for _, a := range regs {
		if l := live.Ranges(m, a); len(l) > 0 {
			w.ranges[a] = l
		}
		for _, b := range regs {
			if live.Together(m, a, b) {
				w.together[[2]int{a, b}] = true
			}
		}
	}
	return w
}

// sameRows tells whether rows have the same items.
func sameRows(a, b [][]int) bool { return slices.EqualFunc(a, b, slices.Equal) }

// alike tells whether the same is told.
func alike(a, b told) bool {
	return sameRows(a.in, b.in) && sameRows(a.out, b.out) && sameRows(a.at, b.at) && a.most == b.most && maps.EqualFunc(a.ranges, b.ranges, slices.Equal) && maps.Equal(a.together, b.together)
}

// hold holds what the program tells of machine code against what its words tell.
func hold(t *testing.T, m api.MFunc, regs []int) told {
	t.Helper()
	if !mach.Right(m) {
		t.Fatalf("%v may not be", m)
	}
	got, want := byProgram(m, regs), second{m}.byWords(regs)
	if !alike(got, want) {
		t.Fatalf("%v:\n%v, not\n%v", m, got, want)
	}
	for _, at := range spots(m) {
		if n := live.Number(m, at.block, at.place); n != at.number {
			t.Fatalf("%v: %v has the number %d", m, at, n)
		}
	}
	return want
}

// tally counts what there was to tell, so that samples have some of all.
type tally struct{ holes, apart, dead, across int }

// note counts what is told of machine code.
func (c *tally) note(s second, w told, regs []int) {
	for _, l := range w.ranges {
		c.holes += len(l) - 1
	}
	for _, a := range regs {
		for _, b := range regs {
			if len(w.ranges[a]) > 0 && len(w.ranges[b]) > 0 && !w.together[[2]int{a, b}] {
				c.apart++
			}
		}
	}
	for _, at := range spots(s.m) {
		for _, r := range regs {
			if s.has(r, at.block, at.place) && !slices.Contains(w.at[at.number], r) {
				c.dead++
			}
		}
	}
	for _, row := range w.out {
		c.across += len(row)
	}
}

// enough holds that there was so much of all.
func (c *tally) enough(t *testing.T, least tally) {
	t.Helper()
	if c.holes < least.holes || c.apart < least.apart || c.dead < least.dead || c.across < least.across {
		t.Errorf("only %+v", *c)
	}
}

// TestSecond: of code of all kinds just what the document's words say is told (P10.1 to P10.4).
func TestSecond(t *testing.T) {
	var seen tally
	regs := append([]int{0, 1, 2, 3, 4, 5, 6, 7, 8, 9, 4095, 4096, 8191}, far...)
	for _, x := range sample.MRuns(11, 600) {
		seen.note(second{x.M}, hold(t, x.M, regs), regs)
	}
	seen.enough(t, tally{holes: 1000, apart: 2000, dead: 1000, across: 5000})
}

// thin is code with most of its phis and instructions gone, so that registers live on through many blocks.
func thin(next func(int) int, m api.MFunc) api.MFunc {
	for b := range m.Blocks {
		x := &m.Blocks[b]
		x.Phis = slices.DeleteFunc(x.Phis, func(api.Phi) bool { return next(4) > 0 })
		x.Ins = slices.DeleteFunc(x.Ins, func(api.Mach) bool { return next(6) > 0 })
	}
	return m
}

// turned is code whose blocks have other numbers, all but the first, in another order: control goes on to any of them.
func turned(next func(int) int, m api.MFunc) api.MFunc {
	n := len(m.Blocks)
	is := []int{0}
	for b := 1; b < n; b++ {
		is = slices.Insert(is, 1+next(b), b)
	}
	own := api.MFunc{Params: m.Params, Blocks: make([]api.MBlock, n)}
	for b, x := range m.Blocks {
		for k := range x.End.To {
			x.End.To[k] = is[x.End.To[k]]
		}
		for _, p := range x.Phis {
			for k := range p.In {
				p.In[k].From = is[p.In[k].From]
			}
			slices.SortFunc(p.In, func(a, b api.In) int { return a.From - b.From })
		}
		own.Blocks[is[b]] = x
	}
	return own
}

// TestMany: registers live on through many blocks, however these go round, and whatever numbers they have (P10.1 to P10.4).
func TestMany(t *testing.T) {
	next := sample.Numbers(13)
	var seen tally
	for range 150 {
		m := turned(next, thin(next, sample.MCode(next, 40)))
		regs := second{m}.named()
		seen.note(second{m}, hold(t, m, regs), regs)
	}
	seen.enough(t, tally{holes: 1000, apart: 200, dead: 500, across: 10000})
}

// TestChosen: of what functions come to the same is told; there nothing but parameters is live where it begins (P10.1 to P10.4).
func TestChosen(t *testing.T) {
	var seen tally
	for _, x := range sample.Runs(17, 150) {
		m, _, e := choose.Func(x.F, tile.All())
		if e != api.OK {
			t.Fatal(e)
		}
		regs := second{m}.named()
		w := hold(t, m, regs)
		seen.note(second{m}, w, regs)
		if l := w.in[0]; len(l) > 0 && l[len(l)-1] >= m.Params {
			t.Fatalf("%v: %v are live where it begins", m, l)
		}
	}
	seen.enough(t, tally{holes: 200, apart: 10000, dead: 500, across: 1000})
}
