package linear

import (
	"slices"

	"jacquard/api"
	"jacquard/phys"
)

// isBound tells whether what is made by an operation stands in registers of its own.
func isBound(op int) bool { return op == api.MCall || op == api.MMulw }

// bound is an instruction with the registers that it has of its own, and no others.
func bound(i api.Mach) api.Mach {
	x := api.Mach{Op: i.Op, Imm: i.Imm}
	if i.Op == api.MMulw {
		x.E = 1
	}
	for n := range i.Args {
		if i.Op == api.MCall {
			x.Args = append(x.Args, n)
		}
	}
	return x
}

// spoilt are the places of instructions that write over registers of their own, by register.
func spoilt(m api.MFunc) [api.MaxRegs][]int {
	var all [api.MaxRegs][]int
	first := 0
	for _, x := range m.Blocks {
		for n, i := range x.Ins {
			if !isBound(i.Op) {
				continue
			}
			for _, r := range slices.Concat(phys.Makes(bound(i)), phys.Spoils(i)) {
				all[r] = append(all[r], first+n)
			}
		}
		first += len(x.Ins) + 1
	}
	return all
}
