package tile

import (
	"slices"

	"jacquard/api"
	"jacquard/check"
)

// All is the table of all patterns, each of its usual cost.
func All() []api.Tile {
	var l []api.Tile
	for pat := 1; pat <= Patterns(); pat++ {
		l = append(l, api.Tile{Pat: pat, Cost: catalogue[pat].cost})
	}
	return l
}

// Check tells whether a table may be: what is wrong first, and the number of its tile.
func Check(l []api.Tile) (api.Errno, int) {
	if len(l) > api.MaxTiles {
		return api.ErrMany, 0
	}
	for n, t := range l {
		if !isPattern(t.Pat) {
			return api.ErrTile, n
		}
		if t.Cost < 0 || t.Cost > api.MaxCost {
			return api.ErrCost, n
		}
	}
	return api.OK, 0
}

// Covers tells whether a table covers a function: the first block and place that it does not.
func Covers(l []api.Tile, f api.Func) (e api.Errno, block, place int) {
	if e, _ := Check(l); e != api.OK {
		return e, 0, 0
	}
	if !check.Right(f) {
		return api.ErrArg, 0, 0
	}
	c := coverer{have: numbers(l), all: patterns(), uses: check.Uses(f)}
	for n, b := range f.Blocks {
		if at := c.lacks(b); at >= 0 {
			return api.ErrCover, n, at
		}
	}
	return api.OK, 0, 0
}

// numbers are the patterns of a table's tiles, each once, and that which needs no tile.
func numbers(l []api.Tile) []int {
	have := []int{none}
	for _, t := range l {
		have = append(have, t.Pat)
	}
	slices.Sort(have)
	return slices.Compact(have)
}

// coverer finds what of a function can be covered.
type coverer struct {
	have []int // the patterns that there are tiles of
	all  map[int]pattern
	uses []int // of the function's values
}

// missing are foldable values of which the instruction can not be covered.
type missing map[int]struct{}

// lacks is the first place of a block that can not be covered, but for instructions whose values are foldable; below 0, if there is none.
func (c coverer) lacks(b api.Block) int {
	around := scope{b, c.uses}
	// What makes a foldable value stands ahead of what takes it: so it is known by then whether it can be covered.
	bare := missing{}
	for at := range len(b.Ins) + 1 {
		s := siteAt(b, at)
		s.inner = around.inner
		if c.can(s, bare) {
			continue
		}
		if at == len(b.Ins) || s.ins.Op == api.Store || !around.foldable(s.ins.Dst) {
			return at
		}
		bare[s.ins.Dst] = struct{}{}
	}
	return -1
}

// can tells whether a site can be covered, with values that can not be taken.
func (c coverer) can(s site, bare missing) bool {
	lacking := func(v int) bool {
		_, lacks := bare[v]
		return lacks
	}
	return slices.ContainsFunc(c.have, func(pat int) bool {
		if !s.suits(pat) {
			return false
		}
		l, ok := c.all[pat](s)
		return ok && !slices.ContainsFunc(l.takes, lacking)
	})
}
