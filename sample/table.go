package sample

import (
	"slices"

	"jacquard/api"
	"jacquard/tile"
)

// Table is one of patterns, each with its cost.
func Table(l ...int) []api.Tile {
	var all []api.Tile
	for n := 0; n < len(l); n += 2 {
		all = append(all, api.Tile{Pat: l[n], Cost: l[n+1]})
	}
	return all
}

// Usual is the table of all patterns, with other tiles behind.
func Usual(l ...int) []api.Tile { return slices.Concat(tile.All(), Table(l...)) }

// AnyTable is one of some patterns, or of all but a few, in any order; many sums come out the same.
func AnyTable(next func(int) int) []api.Tile {
	var l []api.Tile
	lacks, costs := 2+next(25), []int{1, 2, 3, 4, 8, 1001}[next(6)]
	for range 1 + next(2) {
		for pat := 1; pat <= 37; pat++ {
			if next(lacks) > 0 {
				l = slices.Insert(l, next(len(l)+1), api.Tile{Pat: pat, Cost: next(costs)})
			}
		}
	}
	return l
}
