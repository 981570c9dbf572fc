package linear

import (
	"jacquard/api"
	"jacquard/mach"
	"jacquard/phys"
)

// wish is a register that saves a move: a certain one, or (if that is below 0) the home of another virtual register.
type wish struct{ register, of int }

// wishes are those of virtual registers.
type wishes map[int][]wish

// wishesOf are those of what code moves about.
func wishesOf(m api.MFunc) wishes {
	all := make(wishes)
	for r := range m.Params {
		all.certain(r, r)
	}
	for _, x := range m.Blocks {
		for _, p := range x.Phis {
			for _, in := range p.In {
				all.alike(p.Dst, in.Val)
			}
		}
		for _, i := range x.Ins {
			all.instruction(i)
		}
		if x.End.Op == api.ERet && x.End.A >= 0 {
			all.certain(x.End.A, 0)
		}
	}
	return all
}

// certain is a wish for one register.
func (w wishes) certain(reg, r int) {
	w[reg] = append(w[reg], wish{r, 0})
}

// alike is a wish of two for the same one.
func (w wishes) alike(a, b int) {
	w[a] = append(w[a], wish{-1, b})
	w[b] = append(w[b], wish{-1, a})
}

// instruction are the wishes by which one needs no moves about it.
func (w wishes) instruction(i api.Mach) {
	if i.Op == api.MMov {
		w.alike(i.D, i.A)
	}
	if !isBound(i.Op) {
		return
	}
	x := bound(i)
	made := phys.Makes(x)
	for n, r := range mach.Makes(i) {
		w.certain(r, made[n])
	}
	for n, r := range x.Args {
		w.certain(i.Args[n], r)
	}
}
