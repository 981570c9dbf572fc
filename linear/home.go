package linear

import "jacquard/api"

// home is where a virtual register stands as long as it lives: at a place; or (below 0) at none, as it is a number, that is laid anew wherever it is taken.
type home struct {
	place  int
	number int32
}

// firstSlot is the place of slot 0: registers are ahead of it.
const firstSlot = api.MaxRegs

// isRegister tells whether a home is one.
func (h home) isRegister() bool { return 0 <= h.place && h.place < firstSlot }

// plan is where all virtual registers of code stand; those that are made in vain need not stand anywhere.
type plan struct {
	homes map[int]home
	tight bool // some stand in slots, or nowhere: the first registers are no homes, but temps
	slots int
}

// plan gives registers to all, if there are enough; else all but the temps.
func (c code) plan() plan {
	if !c.isCrowded() {
		s := newScan(c, 0, c.usable())
		s.give(c.lives)
		if len(s.homes) == len(c.lives) {
			return plan{homes: s.homes}
		}
	}
	needed := needed(c.lives)
	s := newScan(c, temps, c.usable())
	s.give(needed)
	return tightPlan(s.homes, needed, numbers(c.m))
}

// needed are the lives of what is not made in vain.
func needed(l []life) []life {
	var all []life
	for _, x := range l {
		if x.taken {
			all = append(all, x)
		}
	}
	return all
}

// tightPlan has homes for those, too, that got no register: none for numbers, else each a slot.
func tightPlan(homes map[int]home, lives []life, numbers map[int]origin) plan {
	p := plan{homes: homes, tight: true}
	for r, o := range numbers {
		if _, ok := homes[r]; !ok {
			homes[r] = home{-1, o.number}
		}
	}
	for _, l := range lives {
		if _, ok := homes[l.reg]; !ok {
			homes[l.reg] = home{place: firstSlot + p.slots}
			p.slots++
		}
	}
	return p
}
