package sample

import (
	"math"
	"slices"

	"jacquard/api"
	"jacquard/graph"
)

// One is an item of a row.
func One[T any](next func(int) int, l ...T) T { return l[next(len(l))] }

// MWord is one that is worth a look in machine code: a small one, one at which the numbers of instructions begin or end to fit, or any.
func MWord(next func(int) int) int32 {
	switch next(4) {
	case 0:
		return One[int32](next, math.MinInt32, math.MinInt32+1, -65536, -32769, -129, -33, -1, 31, 32, 255, 256, 65535, math.MaxInt32-1, math.MaxInt32)
	case 1:
		return int32(uint32(next(1<<16))<<16 | uint32(next(1<<16)))
	}
	return int32(next(12) - 3)
}

// MWords are a row of them, of any length below one.
func MWords(next func(int) int, below int) []int32 {
	var l []int32
	for range next(below) {
		l = append(l, MWord(next))
	}
	return l
}

// grower makes machine code that may be.
type grower struct {
	next  func(int) int
	width int // how many registers it has to do with, mostly
	m     api.MFunc
}

// register is one of a few, so that code has much to do with itself.
func (g *grower) register() int {
	if g.next(20) == 0 {
		return One(g.next, 4096, api.MaxValues-1)
	}
	return g.next(g.width)
}

// MCode is machine code that may be, of at most so many blocks.
func MCode(next func(int) int, blocks int) api.MFunc { return MWide(next, blocks, 9) }

// MWide is such code that has to do with so many registers.
func MWide(next func(int) int, blocks, width int) api.MFunc {
	g := grower{next: next, width: width, m: api.MFunc{Params: next(5), Blocks: make([]api.MBlock, 1+next(blocks))}}
	edges := g.ways()
	// Words to begin with: addresses, and what can be divided by.
	for range 3 {
		g.lay(0, api.Mach{Op: api.MLi, D: next(width), Imm: int32(next(6))})
	}
	preds := graph.Preds(edges)
	for b := range g.m.Blocks {
		g.phis(b, preds[b])
		for range next(7) {
			g.lay(b, g.instruction())
		}
	}
	return g.m
}

// ways gives each block an end, so that each is reached: by one of those ahead of it; and tells to which blocks each one goes on.
func (g *grower) ways() [][]int {
	n := len(g.m.Blocks)
	edges := make([][]int, n)
	for b := 1; b < n; b++ {
		e := &g.m.Blocks[g.next(b)].End
		e.To = append(e.To, b)
	}
	for b := range g.m.Blocks {
		e := &g.m.Blocks[b].End
		for n > 1 && g.next(3) > 0 {
			e.To = slices.Insert(e.To, g.next(len(e.To)+1), 1+g.next(n-1))
		}
		e.A, e.B, e.Imm = g.register(), g.register(), MWord(g.next)
		switch len(e.To) {
		case 0:
			e.Op = One(g.next, api.ERet, api.ETrap)
		case 1:
			e.Op = api.EJ
		case 2:
			e.Op = One(g.next, api.EBnz, api.EBeq, api.EBlt, api.EBltu, api.EJt)
		default:
			e.Op = api.EJt
		}
		if e.Op == api.ERet && g.next(4) == 0 {
			e.A = One(g.next, -1, -2, math.MinInt)
		}
		edges[b] = e.To
	}
	return edges
}

// phis gives a block phis, one operand for each block that control comes from.
func (g *grower) phis(b int, preds []int) {
	to := g.next(g.width)
	for range g.next(4) * min(b, 1) {
		p := api.Phi{Dst: to}
		for _, from := range preds {
			p.In = append(p.In, api.In{From: from, Val: g.register()})
		}
		g.m.Blocks[b].Phis = append(g.m.Blocks[b].Phis, p)
		to = (to + 1) % g.width
	}
}

// lay lays an instruction.
func (g *grower) lay(b int, i api.Mach) {
	g.m.Blocks[b].Ins = append(g.m.Blocks[b].Ins, i)
}

// instruction is one of any operation of virtual registers; what plays no part in it is anything.
func (g *grower) instruction() api.Mach {
	i := api.Mach{Op: 1 + g.next(28), Imm: MWord(g.next)}
	if i.Op > 1 {
		i.Op++
	}
	i.D, i.E, i.A, i.B, i.C = g.register(), g.register(), g.register(), g.register(), g.register()
	for range g.next(5) {
		i.Args = append(i.Args, g.register())
	}
	switch i.Op {
	case api.MLi:
		i.Imm = One[int32](g.next, -32768, -1, 0, 1, 5, 32767)
	case api.MAddI, api.MAndI:
		i.Imm = One[int32](g.next, -128, -1, 0, 1, 7, 127)
	case api.MShlI, api.MShrI, api.MSarI:
		i.Imm = int32(g.next(32))
	case api.MLd, api.MSt:
		i.Imm = One[int32](g.next, 0, 0, 1, 2, 4, 255)
	case api.MMulw:
		if i.E == i.D {
			i.E = (i.D + 1) % g.width
		}
	}
	return i
}

// MRun is machine code that may be, and an input.
type MRun struct {
	M  api.MFunc
	In api.Input
}

// MRuns are many: a few registers, that all of it takes and makes again and again, and now and then one of the greatest numbers. (Most take registers that were not set.)
func MRuns(seed uint32, count int) []MRun {
	next := Numbers(seed)
	var l []MRun
	for range count {
		m := MCode(next, 6)
		in := api.Input{Args: MWords(next, 7), Mem: MWords(next, 16), Answers: MWords(next, 6), Steps: next(90) - 3}
		l = append(l, MRun{m, in})
	}
	return l
}
