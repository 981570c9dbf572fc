package phys_test

import (
	"slices"
	"testing"

	"jacquard/api"
	"jacquard/phys"
	"jacquard/sample"
)

// state is what the places of a program have, and memory.
type state struct{ places, mem []int32 }

// anyState is one of all registers, and some slots.
func anyState(next func(int) int, slots int) state {
	var s state
	for range 16 + slots {
		s.places = append(s.places, sample.MWord(next))
	}
	for range 20 {
		s.mem = append(s.mem, sample.MWord(next))
	}
	return s
}

// behind is what places have behind an instruction that was done with a state, by what a program told its callee; false: it trapped.
func behind(i api.Mach, s state, answers []int32) (state, api.Outcome, bool) {
	var all []api.Mach
	for n, w := range s.places[16:] {
		all = append(all, imm(api.MLiw, 0, 0, w), sst(0, int32(n)))
	}
	for r, w := range s.places[:16] {
		all = append(all, imm(api.MLiw, r, 0, w))
	}
	p := telling(program(0, 16, len(s.places)-16, block(ret(-1), append(all, i)...)))
	o := phys.Run(p, api.Input{Mem: s.mem, Answers: answers, Steps: 1000})
	calls := 0
	if i.Op == api.MCall {
		calls = 1
	}
	return state{had(o, min(calls, len(o.Calls))), o.Mem}, o, o.End == api.EndRet
}

// TestHangs: an instruction changes no place but those that it makes, or spoils, and what it makes hangs on none but those that it takes, memory, and what calls answer (P12.6).
func TestHangs(t *testing.T) {
	next, done := sample.Numbers(91), make([]int, 32)
	for range 30000 {
		p := sample.PCode(next, 1)
		if p.Slots = min(p.Slots, 5); len(p.Blocks[0].Ins) == 0 {
			continue
		}
		i := p.Blocks[0].Ins[next(len(p.Blocks[0].Ins))].I
		if phys.Ins(i, 16, p.Slots) != api.OK {
			continue
		}
		one := anyState(next, p.Slots)
		other := state{anyState(next, p.Slots).places, one.mem}
		for _, n := range phys.Takes(i) {
			other.places[n] = one.places[n]
		}
		answers := sample.MWords(next, 3)
		now, o, ok := behind(i, one, answers)
		changed, out, so := behind(i, other, answers)
		if ok != so || o.End != out.End || o.Val != out.Val || !slices.Equal(o.Mem, out.Mem) {
			t.Fatalf("%v with %v: %v, but with %v %v", i, one, o, other, out)
		}
		if !ok {
			continue
		}
		done[i.Op]++
		writes := slices.Concat(phys.Makes(i), phys.Spoils(i))
		for n := range one.places {
			if slices.Contains(writes, n) && now.places[n] != changed.places[n] {
				t.Fatalf("%v with %v: %v, but with %v %v", i, one, now, other, changed)
			} else if !slices.Contains(writes, n) && (now.places[n] != one.places[n] || changed.places[n] != other.places[n]) {
				t.Fatalf("%v with %v: %v: place %d changed", i, one, now, n)
			}
		}
	}
	for op := 1; op <= 31; op++ {
		if done[op] < 50 {
			t.Errorf("only %d of %d", done[op], op)
		}
	}
}
