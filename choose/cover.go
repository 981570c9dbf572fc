package choose

import (
	"iter"

	"jacquard/api"
	"jacquard/check"
)

// none is the number of no tile.
const none = -1

// chooser chooses tiles of a table for the blocks of a function that they cover.
type chooser struct {
	l      []api.Tile
	best   []int // the tiles that may be chosen
	params int
	uses   []int // of the function's values
}

// chooserOf is that of a function, and a table.
func chooserOf(f api.Func, l []api.Tile) chooser {
	return chooser{l, cheapest(l), f.Params, check.Uses(f)}
}

// cheapest are the numbers of those tiles of a table that cost least of all of their pattern, and stand first there: no other one is ever chosen.
func cheapest(l []api.Tile) []int {
	least := make(map[int]int)
	for n, t := range l {
		if first, ok := least[t.Pat]; !ok || t.Cost < l[first].Cost {
			least[t.Pat] = n
		}
	}
	var best []int
	for n, t := range l {
		if least[t.Pat] == n {
			best = append(best, n)
		}
	}
	return best
}

// choice is what a place costs least with.
type choice struct {
	cost int   // of its tile, and of all places that it hangs on
	tile int   // its number in the table; none of a Jump, Ret, Trap
	on   []int // the places that make the foldable values that are taken
}

// covered is a block, with its foldable values, and the least costs of its places.
type covered struct {
	its    api.Block
	params int
	folds  map[int]int    // the places that make foldable values
	least  map[int]choice // of the places that can be covered
}

// cover finds the least costs of all places of a block.
func (c chooser) cover(b api.Block) covered {
	x := covered{b, c.params, c.foldable(b), make(map[int]choice)}
	// What makes a foldable value stands ahead of what takes it: so what that costs is known by then.
	for place := range len(b.Ins) + 1 {
		if least, ok := c.choose(x, place); ok {
			x.least[place] = least
		}
	}
	return x
}

// foldable finds the foldable values that a block makes, and their places.
func (c chooser) foldable(b api.Block) map[int]int {
	made, folds := make(map[int]int), make(map[int]int)
	note := func(operands []int) {
		for _, v := range operands {
			at, ok := made[v]
			if !ok || c.uses[v] != 1 {
				continue
			}
			// No other place takes the value: so its maker and this one, as a block of their own, tell as much as the whole function.
			pair := api.Block{Ins: []api.Ins{b.Ins[at]}, Term: api.Term{Args: operands}}
			if check.Foldable(api.Func{Blocks: []api.Block{pair}}, v) {
				folds[v] = at
			}
		}
	}
	for place, i := range b.Ins {
		note(i.Args)
		if i.Op != api.Store {
			made[i.Dst] = place
		}
	}
	note(b.Term.Args)
	return folds
}

// choose finds what a place costs least with, if it can be covered.
func (c chooser) choose(x covered, place int) (choice, bool) {
	if t := x.its.Term; place == len(x.its.Ins) && t.Kind != api.Branch && t.Kind != api.Switch {
		return x.with(none, 0, t.Args)
	}
	v, least, found := x.look(place), choice{}, false
	for _, n := range c.best {
		takes, ok := v.match(c.l[n].Pat)
		if !ok {
			continue
		}
		if next, ok := x.with(n, c.l[n].Cost, takes); ok && (!found || next.cost < least.cost) {
			least, found = next, true
		}
	}
	return least, found
}

// with is the choice of a tile of such a cost that takes such values, if those that are foldable can be covered.
func (x covered) with(n, cost int, takes []int) (choice, bool) {
	next := choice{cost: cost, tile: n}
	for _, v := range takes {
		at, folds := x.folds[v]
		if !folds {
			continue
		}
		under, ok := x.least[at]
		if !ok {
			return choice{}, false
		}
		next.cost += under.cost
		next.on = append(next.on, at)
	}
	return next, true
}

// toCover tells the places that are to be covered, each with its choice, from the term back to the first instruction: what takes a value stands behind what makes it, so it is known by then whether that is to be covered.
func (x covered) toCover() iter.Seq2[int, choice] {
	return func(yield func(int, choice) bool) {
		inner := make(map[int]struct{}) // those of foldable values that nothing takes, as far as it was gone back
		for _, at := range x.folds {
			inner[at] = struct{}{}
		}
		for place := len(x.its.Ins); place >= 0; place-- {
			if _, is := inner[place]; is {
				continue
			}
			its := x.least[place]
			for _, at := range its.on {
				delete(inner, at)
			}
			if !yield(place, its) {
				return
			}
		}
	}
}

// tiles are the numbers of the tiles of all places; none, where no tile is.
func (x covered) tiles() []int {
	row := make([]int, len(x.its.Ins)+1)
	for place := range row {
		row[place] = none
	}
	for place, its := range x.toCover() {
		row[place] = its.tile
	}
	return row
}
