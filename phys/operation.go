package phys

import (
	"jacquard/api"
	"jacquard/mach"
)

// operation is what instructions of a kind take, make and spoil, and what they do: by layer 7, or beyond it.
type operation interface {
	takes(i api.Mach) []int
	makes(i api.Mach) []int
	spoils() []int
	do(i api.Mach, r *run) (trap int32, ok bool) // false: it traps, and as what
}

// operationOf is that of an Op. (It has no fields, so that telling it costs no memory, though it is asked for at each step.)
func operationOf(op int) operation {
	switch op {
	case api.MCall:
		return call{}
	case api.MSld:
		return slotLoad{}
	case api.MSst:
		return slotStore{}
	}
	return plain{}
}

// Takes are the places that an instruction takes, in order.
func Takes(i api.Mach) []int { return operationOf(i.Op).takes(i) }

// Makes are those that it makes.
func Makes(i api.Mach) []int { return operationOf(i.Op).makes(i) }

// Spoils are those that have numbers of no meaning behind it.
func Spoils(i api.Mach) []int { return operationOf(i.Op).spoils() }

// Needs are the places that an end takes, in order.
func Needs(e api.End) []int { return mach.Needs(e) }

// plain is what layer 7 says.
type plain struct{}

func (plain) takes(i api.Mach) []int { return mach.Takes(i) }
func (plain) makes(i api.Mach) []int { return mach.Makes(i) }
func (plain) spoils() []int          { return nil }

func (plain) do(i api.Mach, r *run) (trap int32, ok bool) {
	return mach.Do(i, r.regs[:], r.out.Mem)
}

// call asks for an answer; who is called may write into some registers beside that of the answer.
type call struct{ plain }

func (call) spoils() []int { return []int{1, 2, 3} }

// spoilt is what register 0 would have, if it were spoilt: each one above has one more.
const spoilt = 24301

func (c call) do(i api.Mach, r *run) (trap int32, ok bool) {
	answer := r.call(i)
	for _, n := range c.spoils() {
		r.regs[n] = spoilt + int32(n)
	}
	r.regs[i.D] = answer
	return 0, true
}

// slotPlace is the place of the slot that an instruction names.
func slotPlace(i api.Mach) int { return registers + int(i.Imm) }

// slotLoad brings what a slot has into a register.
type slotLoad struct{ plain }

func (slotLoad) takes(i api.Mach) []int { return []int{slotPlace(i)} }

func (slotLoad) do(i api.Mach, r *run) (trap int32, ok bool) {
	r.regs[i.D] = r.slots[i.Imm]
	return 0, true
}

// slotStore brings what a register has into a slot.
type slotStore struct{ plain }

func (slotStore) makes(i api.Mach) []int { return []int{slotPlace(i)} }

func (slotStore) do(i api.Mach, r *run) (trap int32, ok bool) {
	r.slots[i.Imm] = r.regs[i.A]
	return 0, true
}
