package moves

import (
	"slices"

	"jacquard/api"
)

// nowhere is the number of no place.
const nowhere = -1

// After is what places have behind moves, all at once.
func After(l []api.Move, places []int32) []int32 {
	had, own := row(places), row(slices.Clone(places))
	for _, m := range l {
		own.put(m.To, had.at(m.From))
	}
	return own
}

// Do is what places have behind instructions, one by one (registers 0 to 15, then slots).
func Do(l []api.Mach, places []int32) []int32 {
	own := row(slices.Clone(places))
	for _, i := range l {
		own.do(i)
	}
	return own
}

// row is a number of each place. Of places that it has not it tells 0, and they take nothing.
type row []int32

// has tells whether it has a place.
func (r row) has(place int) bool { return place >= 0 && place < len(r) }

// at is what a place has.
func (r row) at(place int) int32 {
	if !r.has(place) {
		return 0
	}
	return r[place]
}

// put lets a place have a number.
func (r row) put(place int, n int32) {
	if r.has(place) {
		r[place] = n
	}
}

// do does an instruction.
func (r row) do(i api.Mach) {
	a, b, d, s := ofRegister(i.A), ofRegister(i.B), ofRegister(i.D), ofSlot(i.Imm)
	switch i.Op {
	case api.MMov:
		r.put(d, r.at(a))
	case api.MSwap:
		ofA, ofB := r.at(a), r.at(b)
		r.put(a, ofB)
		r.put(b, ofA)
	case api.MLi, api.MLiw:
		r.put(d, i.Imm)
	case api.MSld:
		r.put(d, r.at(s))
	case api.MSst:
		r.put(s, r.at(a))
	}
}

// ofRegister is the place of a register. (A greater number is none, though slots stand there.)
func ofRegister(n int) int {
	if n < 0 || n >= registers {
		return nowhere
	}
	return n
}

// ofSlot is the place of a slot. (A number below 0 is none, though registers stand there.)
func ofSlot(n int32) int {
	if n < 0 {
		return nowhere
	}
	return registers + int(n)
}
