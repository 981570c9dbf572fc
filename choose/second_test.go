package choose_test

import (
	"jacquard/api"
	"jacquard/check"
	"jacquard/tile"
)

// cost is what a place costs least, and with which tile; none of a Jump, Ret, Trap.
type cost struct {
	least, tile int
	takes       []int
	ok          bool // can it be covered?
}

// reckoner reckons by the document's words: each question is asked of the whole function.
type reckoner struct {
	f     api.Func
	l     []api.Tile
	made  map[int][2]int // the block and place that make a foldable value
	known map[[2]int]cost
}

// reckonerOf is that of a function that may be, and a table.
func reckonerOf(f api.Func, l []api.Tile) reckoner {
	r := reckoner{f, l, map[int][2]int{}, map[[2]int]cost{}}
	for b := range f.Blocks {
		for n, i := range f.Blocks[b].Ins {
			if i.Op != api.Store && check.Foldable(f, i.Dst) {
				r.made[i.Dst] = [2]int{b, n}
			}
		}
	}
	return r
}

// needsNone tells whether a place is that of a Jump, Ret, Trap.
func (r reckoner) needsNone(b, place int) bool {
	kind := r.f.Blocks[b].Term.Kind
	return place == len(r.f.Blocks[b].Ins) && kind != api.Branch && kind != api.Switch
}

// free tells whether a place is to be covered, whatever takes its value.
func (r reckoner) free(b, place int) bool {
	ins := r.f.Blocks[b].Ins
	return place == len(ins) || ins[place].Op == api.Store || r.made[ins[place].Dst] != [2]int{b, place} || !check.Foldable(r.f, ins[place].Dst)
}

// foldable are the places that make those values that are foldable.
func (r reckoner) foldable(values []int) [][2]int {
	var l [][2]int
	for _, v := range values {
		if at, ok := r.made[v]; ok {
			l = append(l, at)
		}
	}
	return l
}

// least is the least cost of a place (P8.1).
func (r reckoner) least(b, place int) cost {
	at := [2]int{b, place}
	if _, ok := r.known[at]; !ok {
		r.known[at] = r.reckon(b, place)
	}
	return r.known[at]
}

// reckon tries all tiles at a place.
func (r reckoner) reckon(b, place int) cost {
	if r.needsNone(b, place) {
		takes := r.f.Blocks[b].Term.Args
		sum, ok := r.sum(takes)
		return cost{sum, -1, takes, ok}
	}
	var best cost
	for n, its := range r.l {
		takes, _, fits := tile.Match(r.f, b, place, its.Pat)
		if !fits {
			continue
		}
		if sum, ok := r.sum(takes); ok && (!best.ok || sum+its.Cost < best.least) {
			best = cost{sum + its.Cost, n, takes, true}
		}
	}
	return best
}

// sum are the least costs of what makes those values that are foldable, together.
func (r reckoner) sum(values []int) (int, bool) {
	sum := 0
	for _, at := range r.foldable(values) {
		its := r.least(at[0], at[1])
		if !its.ok {
			return 0, false
		}
		sum += its.least
	}
	return sum, true
}

// tiles are the numbers of the tiles of a block (P8.2).
func (r reckoner) tiles(b int) []int {
	row := make([]int, len(r.f.Blocks[b].Ins)+1)
	for n := range row {
		row[n] = -1
	}
	var cover func(place int)
	cover = func(place int) {
		its := r.least(b, place)
		row[place] = its.tile
		for _, at := range r.foldable(its.takes) {
			cover(at[1])
		}
	}
	for place := range row {
		if r.free(b, place) {
			cover(place)
		}
	}
	return row
}

// chosen is all that is told of a function and a table.
type chosen struct {
	m     api.MFunc
	cost  int
	e     api.Errno
	tiles [][]int // by blocks
}

// second tells all of it by the document's words (P8.2, P8.3).
func second(f api.Func, l []api.Tile) chosen {
	x := chosen{tiles: make([][]int, len(f.Blocks))}
	if e, _, _ := tile.Covers(l, f); e != api.OK {
		x.e = e
		return x
	}
	r, temp := reckonerOf(f, l), check.Top(f)
	x.m.Params = f.Params
	for b := range f.Blocks {
		x.tiles[b] = r.tiles(b)
		laid := api.MBlock{Phis: f.Blocks[b].Phis}
		for place, n := range x.tiles[b] {
			pat := 0
			if n >= 0 {
				pat = l[n].Pat
				x.cost += l[n].Cost
			}
			code, end, _ := tile.Emit(f, b, place, pat, temp)
			if len(code) == 2 {
				temp++
			}
			laid.Ins, laid.End = append(laid.Ins, code...), end
		}
		x.m.Blocks = append(x.m.Blocks, laid)
	}
	if temp > 8192 {
		x.m, x.cost, x.e = api.MFunc{}, 0, api.ErrMany
	}
	return x
}
