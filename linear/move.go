package linear

import (
	"jacquard/api"
	"jacquard/moves"
	"jacquard/phys"
)

// wanted is a virtual register that is to stand at a place.
type wanted struct{ place, reg int }

// lay lays an instruction that stands for the one of a number.
func (w *writer) lay(i api.Mach, from int) {
	w.ins = append(w.ins, api.Placed{I: i, From: from})
	if i.Op == api.MSld || i.Op == api.MSst {
		w.top = max(w.top, int(i.Imm)+1)
	}
}

// between lays one that stands for none.
func (w *writer) between(i api.Mach) { w.lay(i, -1) }

// order lays moves that are to be done all at once, by way of a register, if that is not below 0.
func (w *writer) order(l []api.Move, by int) {
	one, e := moves.Order(l, by, w.spare)
	w.fails = w.fails || e != api.OK
	for _, i := range one {
		w.between(i)
	}
}

// bring lays what brings virtual registers to places, all at once, by way of a register.
func (w *writer) bring(l []wanted, by int) {
	var all []api.Move
	var numbers []func()
	for _, x := range l {
		h := w.source(x.reg)
		if h.place >= 0 {
			all = append(all, api.Move{To: x.place, From: h.place})
			continue
		}
		numbers = append(numbers, func() { w.number(x.place, h.number, by) })
	}
	w.order(all, by)
	// Numbers take nothing, so they come last: what they are laid over has been taken by then.
	for _, lay := range numbers {
		lay()
	}
}

// number lays one to a place; to a slot by way of a register.
func (w *writer) number(to int, n int32, by int) {
	if to >= firstSlot {
		w.number(by, n, by)
		w.between(api.Mach{Op: api.MSst, A: by, Imm: int32(to - firstSlot)})
		return
	}
	i := api.Mach{Op: api.MLi, D: to, Imm: n}
	if phys.Ins(i, w.k, 0) != api.OK {
		i.Op = api.MLiw
	}
	w.between(i)
}

// source is where a virtual register can be had: at home, but in a register, if one has it.
func (w *writer) source(reg int) home {
	h := w.homes[reg]
	if !h.isRegister() {
		if t := w.cache.find(reg); t >= 0 {
			return home{place: t}
		}
	}
	return h
}

// taken is a register that has a virtual one.
func (w *writer) taken(reg int) int {
	if h := w.source(reg); h.isRegister() {
		return h.place
	}
	t := w.cache.clear()
	w.bring([]wanted{{t, reg}}, -1)
	w.cache.put(t, reg)
	return t
}

// target is a register in which one may be made.
func (w *writer) target(reg int) int {
	if h, ok := w.homes[reg]; ok && h.isRegister() {
		return h.place
	}
	return w.cache.clear()
}

// made brings virtual registers home from where they were made.
func (w *writer) made(regs, places []int) {
	var all []api.Move
	for n, r := range regs {
		if places[n] < temps {
			w.cache.put(places[n], r)
		}
		if h, ok := w.homes[r]; ok {
			all = append(all, api.Move{To: h.place, From: places[n]})
		}
	}
	w.order(all, w.by())
}
