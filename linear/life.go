package linear

import (
	"cmp"
	"slices"

	"jacquard/api"
	"jacquard/mach"
)

// life is from where on up to where (by numbers of places in the whole code, without the last one) a virtual register is live, or made. There may be places between at which it is not.
type life struct {
	reg, from, to int
	taken         bool // if not, it is never live, but made in vain
}

// lives are those of all virtual registers, by where they begin.
func lives(m api.MFunc, in, out [][]int) []life {
	var all []life
	has := func(place int, regs []int, taken bool) {
		for _, r := range regs {
			all = append(all, make([]life, max(r+1-len(all), 0))...)
			all[r] = all[r].with(r, place, taken)
		}
	}
	first := 0
	for b, x := range m.Blocks {
		has(first, in[b], true)
		for n, i := range x.Ins {
			has(first+n, mach.Takes(i), true)
			has(first+n+1, mach.Makes(i), false)
		}
		last := first + len(x.Ins)
		has(last, mach.Needs(x.End), true)
		has(last, out[b], true)
		first = last + 1
	}
	none := func(l life) bool { return l.to == 0 }
	return sorted(slices.DeleteFunc(all, none), earlier)
}

// with is the life that has one place more, that is not ahead of the others.
func (l life) with(reg, place int, taken bool) life {
	if l.to == 0 {
		l.from = place
	}
	return life{reg, l.from, place + 1, l.taken || taken}
}

// earlier is the order of lives by where they begin.
func earlier(a, b life) int {
	return cmp.Or(cmp.Compare(a.from, b.from), cmp.Compare(a.reg, b.reg))
}

// crosses tells whether it has one of these places (rising) and the next one, too: what the instruction between writes over may not be its home.
func (l life) crosses(places []int) bool {
	n, _ := slices.BinarySearch(places, l.from)
	return n < len(places) && places[n]+1 < l.to
}
