package sample

import (
	"slices"

	"jacquard/api"
	"jacquard/graph"
)

// ways gives each of n blocks a term, so that each is reached: by one of those ahead of it.
func ways(n int, next func(int) int) []api.Block {
	blocks := make([]api.Block, n)
	for b := 1; b < n; b++ {
		t := &blocks[next(b)].Term
		t.To = append(t.To, b)
	}
	for b := range blocks {
		t := &blocks[b].Term
		for n > 1 && next(3) > 0 {
			t.To = slices.Insert(t.To, next(len(t.To)+1), 1+next(n-1))
		}
		switch len(t.To) {
		case 0:
			t.Kind, t.Imm = api.Ret+next(2), Word(next)
		case 1:
			t.Kind = api.Jump
		case 2:
			t.Kind = api.Branch + next(2)
		default:
			t.Kind = api.Switch
		}
	}
	return blocks
}

// runner makes a function of blocks that have terms.
type runner struct {
	next func(int) int
	f    api.Func
	made [][]int // by blocks: what is made in them, by then
	idom []int
	top  int
}

// grown is a function that may be.
func grown(next func(int) int) api.Func {
	g := runner{next: next, f: api.Func{Params: next(5), Blocks: ways(1+next(6), next)}}
	g.top = g.f.Params
	g.made = make([][]int, len(g.f.Blocks))
	g.idom = graph.Idom(graph.Of(g.f))
	for v := range g.f.Params {
		g.made[0] = append(g.made[0], v)
	}
	// Words to begin with: addresses, and what can be divided by.
	for _, imm := range []int32{int32(next(6)), 1 + int32(next(3)), Word(next)} {
		g.f.Blocks[0].Ins = append(g.f.Blocks[0].Ins, api.Ins{Op: api.Const, Dst: g.fresh(0), Imm: imm})
	}
	// Blocks stand behind what dominates them, so that all that is made on all ways is there.
	for b := range g.f.Blocks {
		g.fill(b)
	}
	g.phis()
	return g.f
}

// fresh is a value that is made in a block.
func (g *runner) fresh(b int) int {
	v := g.top
	g.top += 1 + g.next(3)
	g.made[b] = append(g.made[b], v)
	return v
}

// pick is a value that is made on all ways to the end of a block.
func (g *runner) pick(b int) int {
	var l []int
	for ; b >= 0; b = g.idom[b] {
		l = append(l, g.made[b]...)
	}
	return l[g.next(len(l))]
}

// start is one of the words to begin with, now and then; else any value.
func (g *runner) start(b, n int) int {
	if g.next(4) > 0 {
		return g.f.Blocks[0].Ins[n].Dst
	}
	return g.pick(b)
}

// fill gives a block phis without operands, instructions, and its term's operands.
func (g *runner) fill(b int) {
	block := &g.f.Blocks[b]
	for range g.next(4) * min(b, 1) {
		block.Phis = append(block.Phis, api.Phi{Dst: g.fresh(b)})
	}
	for range g.next(6) {
		block.Ins = append(block.Ins, g.instruction(b))
	}
	if k := block.Term.Kind; k == api.Branch || k == api.Switch || k == api.Ret && g.next(4) > 0 {
		block.Term.Args = []int{g.pick(b)}
	}
}

// instruction is one of any operation.
func (g *runner) instruction(b int) api.Ins {
	i := api.Ins{Op: 1 + g.next(18), Imm: Word(g.next)}
	count := 2
	switch i.Op {
	case api.Const:
		count = 0
	case api.Load:
		count = 1
	case api.Call:
		count = g.next(5)
	}
	for range count {
		i.Args = append(i.Args, g.pick(b))
	}
	switch i.Op {
	case api.Load, api.Store:
		i.Args[0], i.Imm = g.start(b, 0), int32(g.next(8)-2)
	case api.Div:
		i.Args[1] = g.start(b, 1)
	}
	if i.Op != api.Store {
		i.Dst = g.fresh(b)
	}
	if i.Op == api.Mulw {
		i.Two = g.fresh(b)
	}
	return i
}

// phis gives all phis their operands.
func (g *runner) phis() {
	preds := graph.Preds(graph.Of(g.f))
	for b := range g.f.Blocks {
		for n := range g.f.Blocks[b].Phis {
			p := &g.f.Blocks[b].Phis[n]
			for _, from := range preds[b] {
				p.In = append(p.In, api.In{From: from, Val: g.pick(from)})
			}
		}
	}
}

// Run is a function that may be, and an input.
type Run struct {
	F  api.Func
	In api.Input
}

// Runs are many, of all kinds of ends: their addresses, and what is divided by, are mostly such as may be.
func Runs(seed uint32, count int) []Run {
	next := Numbers(seed)
	var l []Run
	for range count {
		f := grown(next)
		in := api.Input{Args: Words(next, 7), Mem: Words(next, 16), Answers: Words(next, 6), Steps: next(90) - 3}
		l = append(l, Run{f, in})
	}
	return l
}
