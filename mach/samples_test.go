package mach_test

import (
	"math"
	"slices"

	"jacquard/api"
	"jacquard/sample"
)

// one is an item of a row.
func one[T any](next func(int) int, l ...T) T { return l[next(len(l))] }

// words are such as are worth a look: small ones, those at the ends, and any.
func words(next func(int) int) int32 {
	switch next(4) {
	case 0:
		return one[int32](next, math.MinInt32, math.MinInt32+1, -65536, -32769, -129, -33, -1, 31, 32, 255, 256, 65535, math.MaxInt32-1, math.MaxInt32)
	case 1:
		return int32(uint32(next(1<<16))<<16 | uint32(next(1<<16)))
	}
	return int32(next(12) - 3)
}

// rowOf is a row of words, of any length below one.
func rowOf(next func(int) int, below int) []int32 {
	var l []int32
	for range next(below) {
		l = append(l, words(next))
	}
	return l
}

// grower makes machine code that may be.
type grower struct {
	next func(int) int
	m    api.MFunc
}

// register is one of a few, so that code has much to do with itself.
func (g *grower) register() int {
	if g.next(20) == 0 {
		return one(g.next, 4096, api.MaxValues-1)
	}
	return g.next(9)
}

// grown is machine code that may be.
func grown(next func(int) int) api.MFunc {
	g := grower{next: next, m: api.MFunc{Params: next(5), Blocks: make([]api.MBlock, 1+next(6))}}
	g.ways()
	// Words to begin with: addresses, and what can be divided by.
	for range 3 {
		g.lay(0, api.Mach{Op: api.MLi, D: next(9), Imm: int32(next(6))})
	}
	preds := predecessors(g.m)
	for b := range g.m.Blocks {
		g.phis(b, preds[b])
		for range next(7) {
			g.lay(b, g.instruction())
		}
	}
	return g.m
}

// ways gives each block an end, so that each is reached: by one of those ahead of it.
func (g *grower) ways() {
	n := len(g.m.Blocks)
	for b := 1; b < n; b++ {
		e := &g.m.Blocks[g.next(b)].End
		e.To = append(e.To, b)
	}
	for b := range g.m.Blocks {
		e := &g.m.Blocks[b].End
		for n > 1 && g.next(3) > 0 {
			e.To = slices.Insert(e.To, g.next(len(e.To)+1), 1+g.next(n-1))
		}
		e.A, e.B, e.Imm = g.register(), g.register(), words(g.next)
		switch len(e.To) {
		case 0:
			e.Op = one(g.next, api.ERet, api.ETrap)
		case 1:
			e.Op = api.EJ
		case 2:
			e.Op = one(g.next, api.EBnz, api.EBeq, api.EBlt, api.EBltu, api.EJt)
		default:
			e.Op = api.EJt
		}
		if e.Op == api.ERet && g.next(4) == 0 {
			e.A = one(g.next, -1, -2, math.MinInt)
		}
	}
}

// phis gives a block phis, one operand for each block that control comes from.
func (g *grower) phis(b int, preds []int) {
	to := g.next(9)
	for range g.next(4) * min(b, 1) {
		p := api.Phi{Dst: to}
		for _, from := range preds {
			p.In = append(p.In, api.In{From: from, Val: g.register()})
		}
		g.m.Blocks[b].Phis = append(g.m.Blocks[b].Phis, p)
		to = (to + 1) % 9
	}
}

// lay lays an instruction.
func (g *grower) lay(b int, i api.Mach) {
	g.m.Blocks[b].Ins = append(g.m.Blocks[b].Ins, i)
}

// instruction is one of any operation of virtual registers; what plays no part in it is anything.
func (g *grower) instruction() api.Mach {
	i := api.Mach{Op: 1 + g.next(28), Imm: words(g.next)}
	if i.Op > 1 {
		i.Op++
	}
	i.D, i.E, i.A, i.B, i.C = g.register(), g.register(), g.register(), g.register(), g.register()
	for range g.next(5) {
		i.Args = append(i.Args, g.register())
	}
	switch i.Op {
	case api.MLi:
		i.Imm = one[int32](g.next, -32768, -1, 0, 1, 5, 32767)
	case api.MAddI, api.MAndI:
		i.Imm = one[int32](g.next, -128, -1, 0, 1, 7, 127)
	case api.MShlI, api.MShrI, api.MSarI:
		i.Imm = int32(g.next(32))
	case api.MLd, api.MSt:
		i.Imm = one[int32](g.next, 0, 0, 1, 2, 4, 255)
	case api.MMulw:
		if i.E == i.D {
			i.E = (i.D + 1) % 9
		}
	}
	return i
}

// run is machine code that may be, and an input.
type run struct {
	m  api.MFunc
	in api.Input
}

// samples are many.
func samples(seed uint32, count int) []run {
	next := sample.Numbers(seed)
	var l []run
	for range count {
		m := grown(next)
		in := api.Input{Args: rowOf(next, 7), Mem: rowOf(next, 16), Answers: rowOf(next, 6), Steps: next(90) - 3}
		l = append(l, run{m, in})
	}
	return l
}
