package cover_test

import (
	"jacquard/api"
	"jacquard/check"
	"jacquard/tile"
)

// fit is a pattern that fits a place, with what its cheapest tile costs, and of which all foldable values that it takes can be covered.
type fit struct {
	pat, cost int
	takes     []int
}

// tiler lays covers of a function by tiles of a table, whichever are picked, root by root.
type tiler struct {
	f    api.Func
	made map[int][2]int // the blocks and places that make foldable values
	fits map[[2]int][]fit
}

// tilerOf is that of a function that may be, and a table; false, if that does not cover it.
func tilerOf(f api.Func, l []api.Tile) (tiler, bool) {
	x := tiler{f, map[int][2]int{}, map[[2]int][]fit{}}
	least := map[int]int{}
	for _, its := range l {
		if cost, ok := least[its.Pat]; !ok || its.Cost < cost {
			least[its.Pat] = its.Cost
		}
	}
	for b := range f.Blocks {
		for place := range len(f.Blocks[b].Ins) + 1 {
			x.note(b, place, least)
			if x.free(b, place) && len(x.fits[[2]int{b, place}]) == 0 {
				return tiler{}, false
			}
		}
	}
	return x, true
}

// note notes what fits a place.
func (x tiler) note(b, place int, least map[int]int) {
	at, its := [2]int{b, place}, x.f.Blocks[b]
	if place < len(its.Ins) && its.Ins[place].Op != api.Store && check.Foldable(x.f, its.Ins[place].Dst) {
		x.made[its.Ins[place].Dst] = at
	}
	add := func(f fit) {
		for _, v := range f.takes {
			if by, ok := x.made[v]; ok && len(x.fits[by]) == 0 {
				return
			}
		}
		x.fits[at] = append(x.fits[at], f)
	}
	if k := its.Term.Kind; place == len(its.Ins) && (k == api.Jump || k == api.Ret || k == api.Trap) {
		add(fit{takes: its.Term.Args})
	}
	for pat := 1; pat <= 37; pat++ {
		if takes, _, ok := tile.Match(x.f, b, place, pat); ok {
			if cost, ok := least[pat]; ok {
				add(fit{pat, cost, takes})
			}
		}
	}
}

// free tells whether a place is a root, whatever takes its value.
func (x tiler) free(b, place int) bool {
	its := x.f.Blocks[b]
	if place == len(its.Ins) || its.Ins[place].Op == api.Store {
		return true
	}
	_, folds := x.made[its.Ins[place].Dst]
	return !folds
}

// tiles picks a tile for each root, from the term back: those of a block are known by what is behind them.
func (x tiler) tiles(pick func(int) int) map[[2]int]fit {
	all := map[[2]int]fit{}
	for b := range x.f.Blocks {
		taken := map[[2]int]bool{}
		for place := len(x.f.Blocks[b].Ins); place >= 0; place-- {
			at := [2]int{b, place}
			if !x.free(b, place) && !taken[at] {
				continue
			}
			all[at] = x.fits[at][pick(len(x.fits[at]))]
			for _, v := range all[at].takes {
				if by, ok := x.made[v]; ok {
					taken[by] = true
				}
			}
		}
	}
	return all
}

// lay lays the machine code of tiles, and tells what they cost.
func (x tiler) lay(tiles map[[2]int]fit, temp func() int) (api.MFunc, int) {
	m, sum := api.MFunc{Params: x.f.Params}, 0
	for b, its := range x.f.Blocks {
		laid := api.MBlock{Phis: its.Phis}
		for place := range len(its.Ins) + 1 {
			f, ok := tiles[[2]int{b, place}]
			if !ok {
				continue
			}
			sum += f.cost
			t := 0
			if f.pat == 26 || f.pat == 30 {
				t = temp()
			}
			code, end, _ := tile.Emit(x.f, b, place, f.pat, t)
			laid.Ins, laid.End = append(laid.Ins, code...), end
		}
		m.Blocks = append(m.Blocks, laid)
	}
	return m, sum
}

// upFrom are temps, one by one.
func upFrom(first int) func() int {
	return func() int {
		first++
		return first - 1
	}
}

// every goes over all ways to pick, up to a limit, and tells whether that was all of them.
func every(limit int, tell func(pick func(int) int)) bool {
	var picked, sizes []int
	for range limit {
		at := 0
		tell(func(n int) int {
			if at == len(picked) {
				picked, sizes = append(picked, 0), append(sizes, n)
			}
			at++
			return picked[at-1]
		})
		for len(picked) > 0 && picked[len(picked)-1] == sizes[len(picked)-1]-1 {
			picked, sizes = picked[:len(picked)-1], sizes[:len(picked)-1]
		}
		if len(picked) == 0 {
			return true
		}
		picked[len(picked)-1]++
	}
	return false
}
