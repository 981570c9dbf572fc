package cover

import (
	"maps"
	"slices"

	"jacquard/api"
)

// The pattern of a term that needs no tile, and those whose machine code has a temp.
const (
	plain = 0
	ldl   = 26
	stl   = 30
)

// table is one of tiles.
type table struct {
	pats  []int       // the patterns that there are, and that which needs no tile
	costs map[int]int // what each costs least
}

// tableOf is that of tiles.
func tableOf(l []api.Tile) table {
	t := table{costs: map[int]int{plain: 0}}
	for _, its := range l {
		if cost, ok := t.costs[its.Pat]; !ok || its.Cost < cost {
			t.costs[its.Pat] = its.Cost
		}
	}
	t.pats = slices.Sorted(maps.Keys(t.costs))
	return t
}

// find finds the pattern whose machine code, or end, at a site is what a closure knows to stand there. (It is one at most: no two make the same of a place.)
func (t table) find(s site, temp int, stands func([]api.Mach, api.End) bool) (int, bool) {
	for _, pat := range t.pats {
		if code, end, ok := s.emit(pat, temp); ok && stands(code, end) {
			return pat, true
		}
	}
	return 0, false
}

// least is what no cover of a block costs less than.
func (t table) least(b block) int {
	sum := 0
	under := make(map[int]int) // the least costs of foldable values, with all that they hang on
	for place, s := range b.sites {
		cost, ok := t.leastAt(s, b, under)
		if place == len(b.its.Ins) || !b.foldable(b.its.Ins[place]) {
			sum += cost
		} else if ok {
			under[b.its.Ins[place].Dst] = cost
		}
	}
	return sum
}

// leastAt is the least cost of a site, with all that it hangs on, if it can be covered.
func (t table) leastAt(s site, b block, under map[int]int) (least int, found bool) {
	for _, pat := range t.pats {
		takes, _, ok := s.match(pat)
		if !ok {
			continue
		}
		more, ok := b.sum(takes, under)
		if cost := t.costs[pat] + more; ok && (!found || cost < least) {
			least, found = cost, true
		}
	}
	return least, found
}

// sum is what the foldable ones of such values cost at least, if all of them can be covered.
func (b block) sum(values []int, under map[int]int) (int, bool) {
	sum := 0
	for _, v := range values {
		cost, can := under[v]
		if _, folds := b.folds[v]; folds && !can {
			return 0, false
		}
		sum += cost
	}
	return sum, true
}
