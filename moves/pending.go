package moves

import (
	"iter"
	"maps"
	"slices"

	"jacquard/api"
)

// pending are moves that are still to be done.
type pending struct {
	from   map[int]int // what each To takes
	takers map[int]int // how many take from a place
}

// pendingOf keeps moves: of those with one To the last one, and none that leaves all as it is.
func pendingOf(l []api.Move) pending {
	p := pending{make(map[int]int), make(map[int]int)}
	for _, m := range l {
		p.from[m.To] = m.From
	}
	maps.DeleteFunc(p.from, func(to, from int) bool { return to == from })
	for _, from := range p.from {
		p.takers[from]++
	}
	return p
}

// rising are the places that are still to be written, the least one first.
func (p pending) rising() []int {
	return slices.Sorted(maps.Keys(p.from))
}

// loose tells the moves to a place that no other one takes from, and that place: always that with the least To of those that are so by then. Each is gone when it is told. What is left behind are circles.
func (p pending) loose() iter.Seq2[int, int] {
	return func(yield func(int, int) bool) {
		for _, x := range p.rising() {
			// All below x that may be written are. A move lets loose at most what it took from: if that is below x, it is the least one.
			for to := x; to <= x && p.isLoose(to); {
				from := p.from[to]
				p.done(to)
				if !yield(to, from) {
					return
				}
				to = from
			}
		}
	}
}

// isLoose tells whether a place is still to be written, and no other one takes from it.
func (p pending) isLoose(place int) bool {
	_, ok := p.from[place]
	return ok && p.takers[place] == 0
}

// done takes the move to a place away.
func (p pending) done(to int) {
	p.takers[p.from[to]]--
	delete(p.from, to)
}

// circle tells the places of a circle, from one of them on, each with that which it takes from. (There must be nothing left but circles.)
func (p pending) circle(x int) iter.Seq2[int, int] {
	return func(yield func(int, int) bool) {
		for to := x; yield(to, p.from[to]); {
			to = p.from[to]
			if to == x {
				return
			}
		}
	}
}

// least are the least places of all circles, rising. (There must be nothing left but circles.)
func (p pending) least() []int {
	var l []int
	gone := make(map[int]struct{})
	for _, x := range p.rising() {
		if _, ok := gone[x]; ok {
			continue
		}
		l = append(l, x)
		for at := range p.circle(x) {
			gone[at] = struct{}{}
		}
	}
	return l
}
