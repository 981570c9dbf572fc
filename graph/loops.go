package graph

import (
	"slices"

	"jacquard/api"
)

// Headers are the blocks to which an edge goes back from one that they dominate, rising.
func Headers(g [][]int) []int {
	f := flowOf(g)
	marked := make([]bool, len(g))
	for from, to := range f.rows.edges() {
		if f.back(from, to) {
			marked[to] = true
		}
	}
	return those(marked)
}

// Body is the loop of a header: itself, and what comes without it to an edge that goes back to it, rising.
func Body(g [][]int, h int) []int {
	if h < 0 || h >= len(g) {
		return nil
	}
	f := flowOf(g)
	marked := make([]bool, len(g))
	var mark func(b int)
	mark = func(b int) {
		if marked[b] || f.number[b] == none {
			return
		}
		marked[b] = true
		for _, from := range f.preds[b] {
			mark(from)
		}
	}
	for _, from := range f.preds[h] {
		if f.back(from, h) {
			// A block that is marked is not gone on from: so no way leads through the header.
			marked[h] = true
			mark(from)
		}
	}
	return those(marked)
}

// Reducible tells whether each circle of what is reached has an edge that goes back.
func Reducible(g [][]int) bool {
	f := flowOf(g)
	rank := make([]int, len(g))
	for i, b := range f.left {
		rank[b] = len(f.left) - i
	}
	// A circle must somewhere turn against the order: so there is none without an edge back, if all that turn so go back.
	// And one that turns so without going back closes a circle with the steps by which the walk came from its end to it: a step of the walk never goes back.
	for from, to := range f.rows.edges() {
		against := f.number[from] != none && rank[to] <= rank[from]
		if against && !f.back(from, to) {
			return false
		}
	}
	return true
}

// flow is a graph with all that loops ask of it.
type flow struct {
	walk
	rows, preds tidied
	spans       []api.Range
}

// flowOf is that of a graph.
func flowOf(g [][]int) flow {
	rows := tidy(g)
	f := flow{walk: rows.walk(), rows: rows, preds: rows.turned()}
	f.spans = spans(f.came, f.dominators(f.preds))
	return f
}

// back tells whether an edge goes back: from a reached block to one that dominates it.
func (f flow) back(from, to int) bool {
	inner, outer := f.spans[from], f.spans[to]
	return outer.From <= inner.From && inner.From < outer.To
}

// spans gives each reached block a number, so that those which a block dominates (and it) have just the numbers of its span, which begins with its own.
// Who dominates whom is then told at once, however deep they stand.
func spans(came, idom []int) []api.Range {
	count := make([]int, len(idom))
	for _, b := range slices.Backward(came) {
		count[b]++
		if b != 0 {
			count[idom[b]] += count[b]
		}
	}
	next := make([]int, len(idom))
	// What is not reached has a span that holds nothing, and stands in none.
	all := slices.Repeat([]api.Range{{From: none, To: none}}, len(idom))
	for _, b := range came {
		from := 0
		if b != 0 {
			from = next[idom[b]]
			next[idom[b]] += count[b]
		}
		all[b] = api.Range{From: from, To: from + count[b]}
		next[b] = from + 1
	}
	return all
}

// those are the numbers that are marked, rising.
func those(marked []bool) []int {
	var numbers []int
	for n, is := range marked {
		if is {
			numbers = append(numbers, n)
		}
	}
	return numbers
}
