package linear

import "jacquard/api"

// code is machine code that may be, and what was found out about it.
type code struct {
	m       api.MFunc
	k       int
	scratch bool
	begins  [][]int            // what is live where blocks begin
	lives   []life             // by where they begin
	spoilt  [api.MaxRegs][]int // of each register the places of what writes over it, whatever is made there
	wishes  wishes
}

// codeOf finds out what must be known of code in which this is live where blocks begin, and end.
func codeOf(m api.MFunc, k int, scratch bool, in, out [][]int) code {
	return code{m, k, scratch, in, lives(m, in, out), spoilt(m), wishesOf(m)}
}

// by is the register that moves that go round go by; below 0: they do without.
func (c code) by() int {
	if c.scratch {
		return c.k - 1
	}
	return -1
}

// usable is how many registers, from 0 on, there are beside that one.
func (c code) usable() int {
	if c.scratch {
		return c.k - 1
	}
	return c.k
}

// isCrowded tells whether that one may come with a parameter in it, or must have an operand, so that nothing can go by it there.
func (c code) isCrowded() bool {
	return c.scratch && max(c.m.Params, operands(c.m)) >= c.k
}

// operands is how many a call has at most.
func operands(m api.MFunc) int {
	most := 0
	for _, b := range m.Blocks {
		for _, i := range b.Ins {
			if i.Op == api.MCall {
				most = max(most, len(i.Args))
			}
		}
	}
	return most
}
