package mach

import "jacquard/api"

// registers are where instructions and ends find their words.
type registers interface {
	get(r int) int32
	set(r int, w int32)
}

// row is registers that a caller has: all others are 0, and stay so.
type row []int32

func (l row) get(r int) int32 {
	if !l.has(r) {
		return 0
	}
	return l[r]
}

func (l row) set(r int, w int32) {
	if l.has(r) {
		l[r] = w
	}
}

// has tells whether there is a register of that number.
func (l row) has(r int) bool {
	return 0 <= r && r < len(l)
}

// file is virtual registers: those that were not set are 0.
type file map[int]int32

func (f file) get(r int) int32    { return f[r] }
func (f file) set(r int, w int32) { f[r] = w }

// Do does an instruction (no calls, no slots) with registers and memory; false: it traps, and as what, and nothing changes.
func Do(i api.Mach, regs, mem []int32) (int32, bool) {
	return do(i, row(regs), mem)
}

// do does an instruction with registers of any kind.
func do[R registers](i api.Mach, regs R, mem []int32) (int32, bool) {
	o := operationOf(i.Op)
	if o.does == nil {
		return 0, true
	}
	var taken words
	from, to := sources(i), targets(i)
	for n, r := range from[:o.takes] {
		taken[n] = regs.get(r)
	}
	made, trap := o.does(i, taken, mem)
	if trap != 0 {
		return trap, false
	}
	for n, r := range to[:o.makes] {
		regs.set(r, made[n])
	}
	return 0, true
}

// Needs are the registers that an end takes, in order.
func Needs(e api.End) []int {
	switch e.Op {
	case api.EBnz, api.EJt:
		return []int{e.A}
	case api.EBeq, api.EBlt, api.EBltu:
		return []int{e.A, e.B}
	case api.ERet:
		if e.A >= 0 {
			return []int{e.A}
		}
	}
	return nil
}

// Goes is the place in To of where an end goes; below 0: it is through.
func Goes(e api.End, regs []int32) int {
	return goes(e, row(regs))
}

// goes is where an end goes, with registers of any kind.
func goes[R registers](e api.End, regs R) int {
	switch e.Op {
	case api.EJ:
		return 0
	case api.EBnz:
		return unless(regs.get(e.A) != 0)
	case api.EBeq:
		return unless(regs.get(e.A) == regs.get(e.B))
	case api.EBlt:
		return unless(regs.get(e.A) < regs.get(e.B))
	case api.EBltu:
		return unless(uint32(regs.get(e.A)) < uint32(regs.get(e.B)))
	case api.EJt:
		// Without a sign, a word below 0 is above all numbers of entries.
		return int(min(int64(uint32(regs.get(e.A))), int64(len(e.To)-1)))
	}
	return -1
}

// unless is the first place, if something is so, else the second one.
func unless(so bool) int {
	if so {
		return 0
	}
	return 1
}
