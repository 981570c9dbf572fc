package cover_test

import (
	"slices"

	"jacquard/api"
	"jacquard/mach"
)

// changed is all that is checked, with something changed: mostly such that machine code still may be.
type changed struct {
	next func(int) int
	f    api.Func
	l    []api.Tile
	m    api.MFunc
	cost int
}

// change changes something.
func (c *changed) change() {
	b := &c.m.Blocks[c.next(len(c.m.Blocks))]
	switch c.next(10) {
	case 0:
		c.rename()
	case 1:
		c.table()
	case 2:
		c.function()
	case 3:
		c.end(&b.End)
	case 4:
		c.phis(b)
	case 5:
		if c.next(4) == 0 {
			c.m.Params = c.next(5)
		} else {
			c.cost += c.next(3) - 1
		}
	case 6, 7:
		c.row(b)
	default:
		if len(b.Ins) > 0 {
			c.instruction(&b.Ins[c.next(len(b.Ins))])
		}
	}
}

// register is any that may be named.
func (c *changed) register() int {
	return c.next(24)
}

// rename gives a register, that an instruction makes, another number wherever it stands: a temp may have any.
func (c *changed) rename() {
	b := c.m.Blocks[c.next(len(c.m.Blocks))]
	if len(b.Ins) == 0 {
		return
	}
	was, is := b.Ins[c.next(len(b.Ins))].D, 40+c.next(4000)
	if c.next(2) == 0 {
		is = c.register()
	}
	for n := range b.Ins {
		i := &b.Ins[n]
		if i.Op == api.MLiw && n+1 < len(b.Ins) && (b.Ins[n+1].Op == api.MLdX || b.Ins[n+1].Op == api.MStX) {
			was = i.D
		}
	}
	for n := range b.Ins {
		i := &b.Ins[n]
		makes, takes := mach.Makes(*i), mach.Takes(*i)
		for at, field := range []*int{&i.D, &i.E} {
			if at < len(makes) && *field == was {
				*field = is
			}
		}
		for at, field := range []*int{&i.A, &i.B, &i.C} {
			if at < len(takes) && i.Op != api.MCall && *field == was {
				*field = is
			}
		}
	}
}

// table changes a tile, or takes it away.
func (c *changed) table() {
	n := c.next(len(c.l) + 1)
	if n == len(c.l) {
		c.l = append(c.l, api.Tile{Pat: c.next(39), Cost: c.next(1001)})
		return
	}
	switch c.next(3) {
	case 0:
		c.l = slices.Delete(c.l, n, n+1)
	case 1:
		c.l[n].Cost = c.next(8)
	default:
		c.l[n].Pat = c.next(39)
	}
}

// function changes something of an instruction of the function; a field without a meaning, too.
func (c *changed) function() {
	b := c.f.Blocks[c.next(len(c.f.Blocks))]
	if len(b.Ins) == 0 {
		return
	}
	i := &b.Ins[c.next(len(b.Ins))]
	switch c.next(5) {
	case 0:
		i.Imm += int32(c.next(3) - 1)
	case 1:
		i.Two = c.register()
	case 2:
		if len(i.Args) > 0 {
			i.Args[c.next(len(i.Args))] = c.register()
		}
	case 3:
		if api.Add <= i.Op && i.Op <= api.Div {
			i.Op = api.Add + c.next(13)
		}
	default:
		i.Dst = c.register()
	}
}

// end changes something of an end.
func (c *changed) end(e *api.End) {
	switch c.next(5) {
	case 0:
		e.A = c.register() - 1
	case 1:
		e.B = c.register()
	case 2:
		e.Imm++
	case 3:
		slices.Reverse(e.To)
	default:
		if len(e.To) == 2 {
			e.Op = api.EBnz + c.next(5)
		} else if len(e.To) == 0 {
			e.Op = api.ERet + c.next(2)
		}
	}
}

// phis changes something of the phis of a block.
func (c *changed) phis(b *api.MBlock) {
	if len(b.Phis) == 0 {
		return
	}
	n := c.next(len(b.Phis))
	p := &b.Phis[n]
	switch c.next(4) {
	case 0:
		p.Dst = c.register()
	case 1:
		p.In[c.next(len(p.In))].Val = c.register()
	case 2:
		b.Phis = slices.Delete(b.Phis, n, n+1)
	default:
		b.Phis[0], b.Phis[n] = b.Phis[n], b.Phis[0]
	}
}

// row changes which instructions a block has, or their order.
func (c *changed) row(b *api.MBlock) {
	if len(b.Ins) == 0 {
		b.Ins = append(b.Ins, api.Mach{Op: api.MLi, D: c.register()})
		return
	}
	n, other := c.next(len(b.Ins)), c.next(len(b.Ins))
	switch c.next(4) {
	case 0:
		b.Ins = slices.Delete(b.Ins, n, n+1)
	case 1:
		b.Ins = slices.Insert(b.Ins, other, b.Ins[n])
	case 2:
		b.Ins[n], b.Ins[other] = b.Ins[other], b.Ins[n]
	default:
		b.Ins = slices.Insert(b.Ins, n, api.Mach{Op: api.MLi, D: c.register(), Imm: int32(c.next(9))})
	}
}

// instruction changes something of one.
func (c *changed) instruction(i *api.Mach) {
	fields := []*int{&i.D, &i.E, &i.A, &i.B, &i.C}
	switch c.next(5) {
	case 0:
		i.Imm += int32(c.next(5) - 2)
	case 1:
		if api.MAdd <= i.Op && i.Op <= api.MDiv {
			i.Op = api.MAdd + c.next(13)
		} else if i.Op == api.MLi || i.Op == api.MLiw {
			i.Op = api.MLi + c.next(2)
		}
	case 2:
		i.Args = append(i.Args, c.register())
	default:
		*fields[c.next(5)] = c.register()
	}
}
