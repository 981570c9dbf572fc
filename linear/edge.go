package linear

import (
	"cmp"
	"slices"

	"jacquard/api"
)

// phis are those of a block whose registers are live behind them: the others need not be brought anything.
func (c code) phis(b int) []api.Phi {
	var live []api.Phi
	for _, p := range c.m.Blocks[b].Phis {
		if _, ok := slices.BinarySearch(c.begins[b], p.Dst); ok {
			live = append(live, p)
		}
	}
	return live
}

// waiting gives slots, from one on, to the phis of blocks that control comes to from one that may go on elsewhere, too: it can't bring home what they take, as what is at home there may be needed elsewhere. It tells the first slot of each block (below 0: it has none), and how many slots there are.
func (c code) waiting(slots int) ([]int, int) {
	first := slices.Repeat([]int{-1}, len(c.m.Blocks))
	for _, x := range c.m.Blocks {
		for _, to := range x.End.To {
			if x.End.Op != api.EJ && first[to] < 0 {
				first[to] = firstSlot + slots
				slots += len(c.phis(to))
			}
		}
	}
	return first, slots
}

// enter brings home what waits for the phis of a block.
func (w *writer) enter(b int) {
	if w.waits[b] < 0 {
		return
	}
	var all []api.Move
	for n, p := range w.phis(b) {
		all = append(all, api.Move{To: w.homes[p.Dst].place, From: w.waits[b] + n})
	}
	w.order(all, w.around())
}

// leave brings what the phis of the blocks ahead take out of a block there, or has it wait.
func (w *writer) leave(b int) {
	var all []wanted
	for _, to := range slices.Compact(sorted(w.m.Blocks[b].End.To, cmp.Compare[int])) {
		for n, p := range w.phis(to) {
			place := w.homes[p.Dst].place
			if w.waits[to] >= 0 {
				place = w.waits[to] + n
			}
			all = append(all, wanted{place, operand(p, b)})
		}
	}
	if len(all) > 0 {
		w.bring(all, w.around())
	}
}

// operand is what a phi takes from a block.
func operand(p api.Phi, from int) int {
	by := func(in api.In, b int) int { return cmp.Compare(in.From, b) }
	n, _ := slices.BinarySearchFunc(p.In, from, by)
	return p.In[n].Val
}

// around is a register that moves about an edge may go by: a temp, if slots are moved, too.
func (w *writer) around() int {
	if w.tight {
		return w.cache.clear()
	}
	return w.by()
}
