package graph

import "slices"

// Idom is the immediate dominator of each block; below 0: there is none.
func Idom(g [][]int) []int {
	rows := tidy(g)
	return rows.walk().dominators(rows.turned())
}

// Dominates tells whether b, or what one comes to from it by idom again and again, is a.
func Dominates(idom []int, a, b int) bool {
	known := func(n int) bool { return 0 <= n && n < len(idom) }
	// Numbers that no graph has told may lead round in a circle: no more steps than there are blocks come to all of it.
	for range idom {
		if !known(b) || a == b {
			break
		}
		b = idom[b]
	}
	return known(b) && a == b
}

// dominators is the immediate dominator of each block, or none.
func (w walk) dominators(preds tidied) []int {
	half := w.halves(preds)
	above := make([]int, len(w.came))
	idom := slices.Repeat([]int{none}, len(w.number))
	for n := 1; n < len(w.came); n++ {
		above[n] = common(above, w.parent[n], half[n])
		idom[w.came[n]] = w.came[above[n]]
	}
	return idom
}

// common is the last one that dominates both a and b, by their numbers, and what stands above each of them.
func common(above []int, a, b int) int {
climb:
	for {
		// A dominator has a lower number than what it dominates: so the greater of both does not dominate the lower one.
		switch {
		case a > b:
			a = above[a]
		case b > a:
			b = above[b]
		default:
			break climb
		}
	}
	return a
}

// climber goes up the ways by which blocks were come to, and makes them shorter for the next time. All is by numbers.
type climber struct {
	up   []int // one further up
	half []int // as far as it is known
	best []int // which has the least half, of itself and of those that up leaps over
}

// halves are the semidominators, by numbers: of each the least one from which a way leads to it, with none but greater ones than itself in between.
// The last dominator that it and the parent have in common is the immediate one (the semi-NCA algorithm): so no fixed point need be looked for, which takes long in deep graphs.
func (w walk) halves(preds tidied) []int {
	c := climber{up: slices.Clone(w.parent), half: make([]int, len(w.came)), best: make([]int, len(w.came))}
	for n := range w.came {
		c.half[n], c.best[n] = n, n
	}
	for n := len(w.came) - 1; n > 0; n-- {
		for _, from := range preds[w.came[n]] {
			if m := w.number[from]; m != none {
				c.half[n] = min(c.half[n], c.half[c.least(m, n)])
			}
		}
	}
	return c.half
}

// least is which has the least half of those from m upwards that are above n; m, if it is not.
func (c climber) least(m, n int) int {
	var below []int
	for c.up[m] > n {
		below = append(below, m)
		m = c.up[m]
	}
	for _, b := range slices.Backward(below) {
		if c.half[c.best[m]] < c.half[c.best[b]] {
			c.best[b] = c.best[m]
		}
		c.up[b] = c.up[m]
		m = b
	}
	return c.best[m]
}
