package live_test

import (
	"slices"

	"jacquard/api"
	"jacquard/mach"
)

// second is machine code that may be, read by the chapter's words: of each point all ways on are gone over, instruction by instruction.
type second struct{ m api.MFunc }

// live tells whether a register is live ahead of a place of a block, or, one place behind its end, behind that.
func (s second) live(reg, block, place int) bool {
	seen := map[[2]int]bool{}
	var on func(block, place int) bool
	on = func(block, place int) bool {
		if seen[[2]int{block, place}] {
			return false
		}
		seen[[2]int{block, place}] = true
		x := s.m.Blocks[block]
		switch {
		case place < len(x.Ins):
			i := x.Ins[place]
			return slices.Contains(mach.Takes(i), reg) || !slices.Contains(mach.Makes(i), reg) && on(block, place+1)
		case place == len(x.Ins):
			return slices.Contains(mach.Needs(x.End), reg) || on(block, place+1)
		}
		return slices.ContainsFunc(x.End.To, func(to int) bool {
			return s.phiTakes(block, to, reg) || !s.phiMakes(to, reg) && on(to, 0)
		})
	}
	return on(block, place)
}

// phiTakes tells whether a phi takes a register, where control goes from a block on to another one.
func (s second) phiTakes(from, to, reg int) bool {
	return slices.ContainsFunc(s.m.Blocks[to].Phis, func(p api.Phi) bool { return slices.Contains(p.In, api.In{From: from, Val: reg}) })
}

// phiMakes tells whether a phi of a block makes a register.
func (s second) phiMakes(block, reg int) bool {
	return slices.ContainsFunc(s.m.Blocks[block].Phis, func(p api.Phi) bool { return p.Dst == reg })
}

// has tells whether a register has a place.
func (s second) has(reg, block, place int) bool {
	if s.live(reg, block, place) {
		return true
	}
	if place > 0 {
		return slices.Contains(mach.Makes(s.m.Blocks[block].Ins[place-1]), reg)
	}
	return s.phiMakes(block, reg) || block == 0 && 0 <= reg && reg < s.m.Params
}

// named are all registers of which the code says anything, rising.
func (s second) named() []int {
	var l []int
	for r := range s.m.Params {
		l = append(l, r)
	}
	for _, x := range s.m.Blocks {
		for _, p := range x.Phis {
			l = append(l, p.Dst)
			for _, in := range p.In {
				l = append(l, in.Val)
			}
		}
		for _, i := range x.Ins {
			l = slices.Concat(l, mach.Makes(i), mach.Takes(i))
		}
		l = append(l, mach.Needs(x.End)...)
	}
	slices.Sort(l)
	return slices.Compact(l)
}

// spot is a place, and how many places stand ahead of it.
type spot struct{ block, place, number int }

// spots are all places.
func spots(m api.MFunc) []spot {
	var l []spot
	for b, x := range m.Blocks {
		for place := range len(x.Ins) + 1 {
			l = append(l, spot{b, place, len(l)})
		}
	}
	return l
}

// told is all that is told of machine code, of registers that are asked for.
type told struct {
	in, out  [][]int
	at       [][]int             // by numbers
	ranges   map[int][]api.Range // of registers that have any
	together map[[2]int]bool     // of those that are so
	most     int
}

// byWords is what must be told.
func (s second) byWords(regs []int) told {
	w := told{ranges: map[int][]api.Range{}, together: map[[2]int]bool{}}
	all := s.named()
	live := func(block, place int) []int {
		return slices.DeleteFunc(slices.Clone(all), func(r int) bool { return !s.live(r, block, place) })
	}
	for b, x := range s.m.Blocks {
		w.in, w.out = append(w.in, live(b, 0)), append(w.out, live(b, len(x.Ins)+1))
	}
	for _, at := range spots(s.m) {
		w.at = append(w.at, live(at.block, at.place))
		having := slices.DeleteFunc(slices.Clone(all), func(r int) bool { return !s.has(r, at.block, at.place) })
		w.most = max(w.most, len(having))
		for _, a := range having {
			if !slices.Contains(regs, a) {
				continue
			}
			l := w.ranges[a]
			if n := len(l); n > 0 && l[n-1].To == at.number {
				l[n-1].To++
			} else {
				w.ranges[a] = append(l, api.Range{From: at.number, To: at.number + 1})
			}
			for _, b := range having {
				if slices.Contains(regs, b) {
					w.together[[2]int{a, b}] = true
				}
			}
		}
	}
	return w
}
