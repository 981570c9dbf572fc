package moves

import "jacquard/api"

// carrier lays what brings places into others. Its calls tell whether there was all that it took.
type carrier struct {
	lay            func(api.Mach)
	scratch, spare int // a register, and the first of two slots; below 0: none
}

// carry lays what does all moves at once.
func (c carrier) carry(p pending) bool {
	for to, from := range p.loose() {
		if !c.bring(to, from) {
			return false
		}
	}
	for _, x := range p.least() {
		if !c.turn(p, x) {
			return false
		}
	}
	return true
}

// bring lays what brings one place into another one.
func (c carrier) bring(to, from int) bool {
	switch {
	case isRegister(to) && isRegister(from):
		c.lay(api.Mach{Op: api.MMov, D: to, A: from})
	case isRegister(to):
		c.lay(api.Mach{Op: api.MSld, D: to, Imm: slot(from)})
	case isRegister(from):
		c.lay(api.Mach{Op: api.MSst, A: from, Imm: slot(to)})
	default:
		return c.across(to, from)
	}
	return true
}

// slot is the number of one, by its place.
func slot(place int) int32 { return int32(place - registers) }

// across lays what brings one slot into another one: by way of the scratch register, or of register 0, which is put away meanwhile.
func (c carrier) across(to, from int) bool {
	if s := c.scratch; s >= 0 {
		return c.bring(s, from) && c.bring(to, s)
	}
	if c.spare < 0 {
		return false
	}
	away := registers + c.spare + 1
	return c.bring(away, 0) && c.bring(0, from) && c.bring(to, 0) && c.bring(0, away)
}

// turn lays what does the moves of the circle of x.
func (c carrier) turn(p pending, x int) bool {
	slots := hasSlot(p, x)
	switch {
	case slots && c.spare < 0:
		return false
	case slots:
		return c.pass(p, x, registers+c.spare)
	case c.scratch >= 0:
		return c.pass(p, x, c.scratch)
	}
	for to, from := range p.circle(x) {
		if from != x {
			c.lay(api.Mach{Op: api.MSwap, A: to, B: from})
		}
	}
	return true
}

// hasSlot tells whether a place of the circle of x is a slot.
func hasSlot(p pending, x int) bool {
	for at := range p.circle(x) {
		if !isRegister(at) {
			return true
		}
	}
	return false
}

// pass lays the moves of the circle of x one by one, with what x had in a place of its own meanwhile.
func (c carrier) pass(p pending, x, own int) bool {
	if !c.bring(own, x) {
		return false
	}
	for to, from := range p.circle(x) {
		if from == x {
			from = own
		}
		if !c.bring(to, from) {
			return false
		}
	}
	return true
}
