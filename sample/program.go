package sample

import (
	"math"

	"jacquard/api"
)

// PRun is a program that may be, and an input.
type PRun struct {
	P  api.PFunc
	In api.Input
}

// PRuns are many: of any number of registers, with few slots and with all. (Most take registers and slots that were not set.)
func PRuns(seed uint32, count int) []PRun {
	next := Numbers(seed)
	var l []PRun
	for range count {
		p := PCode(next, 6)
		in := api.Input{Args: MWords(next, 7), Mem: MWords(next, 16), Answers: MWords(next, 6), Steps: next(120) - 3}
		l = append(l, PRun{p, in})
	}
	return l
}

// PCode is a program that may be, of at most so many blocks, and now and then one more that nothing goes on to: machine code whose registers are made such as there are, and swaps, and loads and stores of slots, in between.
func PCode(next func(int) int, blocks int) api.PFunc {
	m := MCode(next, blocks)
	p := api.PFunc{Params: m.Params, K: api.MinRegs + next(api.MaxRegs-api.MinRegs+1), Slots: One(next, 0, 1, 2, 5, api.MaxSlots)}
	for _, b := range m.Blocks {
		x := api.PBlock{End: registered(b.End, p.K)}
		for n, i := range b.Ins {
			for next(3) == 0 {
				x.Ins = append(x.Ins, api.Placed{I: between(next, p), From: -1})
			}
			from := One(next, n, n, n, -1, math.MinInt, math.MaxInt)
			x.Ins = append(x.Ins, api.Placed{I: fixed(i, p.K), From: from})
		}
		p.Blocks = append(p.Blocks, x)
	}
	if next(4) == 0 {
		p.Blocks = append(p.Blocks, p.Blocks[next(len(p.Blocks))])
	}
	// No two blocks share rows.
	return CopiedProgram(p)
}

// registered is an end of k registers.
func registered(e api.End, k int) api.End {
	switch {
	case e.Op == api.ERet:
		e.A = min(e.A, 0)
	case e.Op != api.EJ && e.Op != api.ETrap:
		e.A, e.B = e.A%k, e.B%k
	}
	return e
}

// between is an instruction that machine code of virtual registers does not have.
func between(next func(int) int, p api.PFunc) api.Mach {
	if p.Slots == 0 || next(3) == 0 {
		return api.Mach{Op: api.MSwap, D: -7, A: next(p.K), B: next(p.K), Imm: MWord(next)}
	}
	i := api.Mach{Op: api.MSld + next(2), D: next(p.K), A: next(p.K), B: 99}
	i.Imm = int32(One(next, 0, p.Slots-1, next(min(p.Slots, 3)), next(p.Slots)))
	return i
}

// fixed is an instruction of k registers. What plays no part in it stays as it is.
func fixed(i api.Mach, k int) api.Mach {
	fields := [...]*int{&i.D, &i.E, &i.A, &i.B, &i.C}
	makes, takes := Named(api.Mach{Op: i.Op, D: 0, E: 1, A: 2, B: 3, C: 4})
	for _, l := range [][]int{makes, takes} {
		for _, n := range l {
			*fields[n] %= k
		}
	}
	switch i.Op {
	case api.MCall:
		i.D, i.Args = 0, []int{0, 1, 2, 3}[:len(i.Args)]
	case api.MMulw:
		i.D, i.E = 0, 1
	}
	return i
}

// CopiedProgram is a program of rows of its own; those without items are nil.
func CopiedProgram(p api.PFunc) api.PFunc {
	p.Blocks = Own(p.Blocks)
	for b := range p.Blocks {
		x := &p.Blocks[b]
		x.Ins, x.End.To = Own(x.Ins), Own(x.End.To)
		for n := range x.Ins {
			x.Ins[n].I.Args = Own(x.Ins[n].I.Args)
		}
	}
	return p
}

// ScribbleProgram writes over all that a program has.
func ScribbleProgram(p api.PFunc) {
	for _, x := range p.Blocks {
		for _, i := range x.Ins {
			clear(i.I.Args)
		}
		clear(x.End.To)
		clear(x.Ins)
	}
	clear(p.Blocks)
}
