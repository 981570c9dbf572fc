package linear

import (
	"maps"

	"jacquard/api"
	"jacquard/mach"
)

// origin is what makes a virtual register: always the same number, or something else.
type origin struct {
	number int32
	varies bool
}

// numbers are those that are always the same number.
func numbers(m api.MFunc) map[int]origin {
	all := make(map[int]origin)
	makes := func(o origin, regs ...int) {
		for _, r := range regs {
			if was, ok := all[r]; ok && was != o {
				o = origin{varies: true}
			}
			all[r] = o
		}
	}
	for r := range m.Params {
		makes(origin{varies: true}, r)
	}
	for _, x := range m.Blocks {
		for _, p := range x.Phis {
			makes(origin{varies: true}, p.Dst)
		}
		for _, i := range x.Ins {
			if i.Op == api.MLi || i.Op == api.MLiw {
				makes(origin{number: i.Imm}, i.D)
			} else {
				makes(origin{varies: true}, mach.Makes(i)...)
			}
		}
	}
	maps.DeleteFunc(all, func(_ int, o origin) bool { return o.varies })
	return all
}
