package cover

import (
	"iter"
	"slices"

	"jacquard/api"
	"jacquard/check"
	"jacquard/mach"
)

// checker holds machine code against a function, block by block.
type checker struct {
	looker
	table
	top  int         // all numbers below are the function's own
	made map[int]int // how many phis and instructions of the machine make each register
	cost int         // of the tiles that were found by then
}

// checkerOf is that of a function, a table and machine code.
func checkerOf(f api.Func, l []api.Tile, m api.MFunc) checker {
	made := make(map[int]int)
	for _, b := range m.Blocks {
		for _, p := range b.Phis {
			made[p.Dst]++
		}
		for _, i := range b.Ins {
			for _, r := range mach.Makes(i) {
				made[r]++
			}
		}
	}
	return checker{looker: lookerOf(f), table: tableOf(l), top: check.Top(f), made: made}
}

// pair is a block of a function, beside its machine code.
type pair struct {
	block
	by    api.MBlock
	ahead []api.Mach       // the machine code that is not behind
	roots map[int]struct{} // the places of instructions that are roots
	inner map[int]struct{} // the values that are inner to tiles
}

// pair is that of a block, and its machine code.
func (c *checker) pair(its api.Block, by api.MBlock) pair {
	return pair{c.block(its), by, by.Ins, make(map[int]struct{}), make(map[int]struct{})}
}

// next is the first instruction of the machine that is not behind; a zero one, which makes nothing, if there is none.
func (x *pair) next() api.Mach {
	if len(x.ahead) == 0 {
		return api.Mach{}
	}
	return x.ahead[0]
}

// toMatch tells the places of roots, in order: which they are hangs on what is ahead as each is come to.
func (x *pair) toMatch() iter.Seq[int] {
	return func(yield func(int) bool) {
		for place, i := range x.its.Ins {
			if x.foldable(i) && !slices.Contains(mach.Makes(x.next()), i.Dst) {
				continue
			}
			if !yield(place) {
				return
			}
		}
	}
}

// hold holds the machine code of a block against the block: what is wrong first, and at which place.
func (c *checker) hold(x *pair) (e api.Errno, place int) {
	if !slices.EqualFunc(x.its.Phis, x.by.Phis, samePhi) {
		return api.ErrMatch, -1
	}
	for at := range x.toMatch() {
		temp, length := x.next().D, 0
		pat, ok := c.find(x.sites[at], temp, func(code []api.Mach, _ api.End) bool {
			length = len(code)
			return length <= len(x.ahead) && slices.EqualFunc(code, x.ahead[:length], sameCode)
		})
		if !ok {
			return api.ErrCover, at
		}
		if (pat == ldl || pat == stl) && !c.isFree(temp) {
			return api.ErrReg, at
		}
		x.ahead = x.ahead[length:]
		x.roots[at] = struct{}{}
		c.take(x, at, pat)
	}
	last := len(x.its.Ins)
	if len(x.ahead) > 0 {
		return api.ErrMatch, last
	}
	pat, ok := c.find(x.sites[last], 0, func(_ []api.Mach, end api.End) bool { return sameEnd(end, x.by.End) })
	if !ok {
		return api.ErrCover, last
	}
	c.take(x, last, pat)
	return api.OK, 0
}

// isFree tells whether a temp is made by its own instruction alone, and is no number of the function's.
func (c *checker) isFree(temp int) bool {
	return temp >= c.top && c.made[temp] == 1
}

// take notes the tile that was found at a place.
func (c *checker) take(x *pair, place, pat int) {
	c.cost += c.costs[pat]
	_, inner, _ := x.sites[place].match(pat)
	for _, v := range inner {
		x.inner[v] = struct{}{}
	}
}

// misused is the first place whose value is foldable, and is both a root's and inner to a tile, or neither; below 0, if there is none.
func (x *pair) misused() int {
	for place, i := range x.its.Ins {
		_, root := x.roots[place]
		_, inner := x.inner[i.Dst]
		if x.foldable(i) && root == inner {
			return place
		}
	}
	return -1
}

// samePhi tells whether two phis are the same.
func samePhi(a, b api.Phi) bool {
	return a.Dst == b.Dst && slices.Equal(a.In, b.In)
}

// sameCode tells whether two instructions are the same, in all that they have.
func sameCode(a, b api.Mach) bool {
	return a.Op == b.Op && a.D == b.D && a.E == b.E && a.A == b.A && a.B == b.B && a.C == b.C && a.Imm == b.Imm && slices.Equal(a.Args, b.Args)
}

// sameEnd tells whether two ends are.
func sameEnd(a, b api.End) bool {
	return a.Op == b.Op && a.A == b.A && a.B == b.B && a.Imm == b.Imm && slices.Equal(a.To, b.To)
}
