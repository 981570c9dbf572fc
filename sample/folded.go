package sample

import (
	"math"
	"slices"

	"jacquard/api"
	"jacquard/graph"
)

// folder makes a function whose values are mostly operands just once, close behind, as patterns need it.
type folder struct {
	next  func(int) int
	f     api.Func
	top   int
	all   []int   // what is made on all ways: parameters, and what the first block makes
	own   [][]int // by blocks: what they make
	fresh []int   // of the block that is made: what was no operand yet
}

// folded is a function that may be.
func folded(next func(int) int) api.Func {
	n := 1 + next(5)
	g := folder{next: next, f: api.Func{Params: next(5), Blocks: make([]api.Block, n)}, own: make([][]int, n)}
	g.top = g.f.Params
	for v := range g.f.Params {
		g.all = append(g.all, v)
	}
	g.lay(0, api.Ins{Op: api.Const, Imm: g.odd()})
	for b := range n {
		g.fill(b)
	}
	g.phis()
	return g.f
}

// odd is a number at which patterns begin or end to fit, or near.
func (g *folder) odd() int32 {
	if g.next(3) == 0 {
		return int32(g.next(32))
	}
	l := []int32{math.MinInt32, -32769, -32768, -129, -128, -127, -1, 0, 1, 7, 31, 32, 127, 128, 129, 254, 255, 256, 32767, 32768, math.MaxInt32}
	return l[g.next(len(l))]
}

// pick is any operand at the end of a block: most often one that was none yet; by an operation that is wished for, if there is one.
func (g *folder) pick(b, op int) int {
	for n, v := range slices.Backward(g.fresh) {
		if g.next(3) > 0 && (op == 0 || g.op(b, v) == op) {
			if g.next(6) > 0 {
				g.fresh = slices.Delete(g.fresh, n, n+1)
			}
			return v
		}
	}
	l := slices.Concat(g.all, g.own[b])
	return l[g.next(len(l))]
}

// op is the operation that makes a value in a block; 0, if none does.
func (g *folder) op(b, v int) int {
	for _, i := range g.f.Blocks[b].Ins {
		if i.Op != api.Store && i.Dst == v {
			return i.Op
		}
	}
	return 0
}

// value is one that a block makes.
func (g *folder) value(b int) int {
	v := g.top
	g.top += 1 + g.next(2)
	g.own[b] = append(g.own[b], v)
	g.fresh = append(g.fresh, v)
	if b == 0 {
		g.all = append(g.all, v)
	}
	return v
}

// lay lays an instruction, and makes its values.
func (g *folder) lay(b int, i api.Ins) {
	if i.Op != api.Store {
		i.Dst = g.value(b)
	} else if g.next(2) == 0 {
		// It makes nothing, so it does not matter what stands there.
		i.Dst = g.pick(b, api.Const)
	}
	if i.Op == api.Mulw {
		i.Two = g.value(b)
	}
	g.f.Blocks[b].Ins = append(g.f.Blocks[b].Ins, i)
}

// fill gives a block phis without operands, instructions, and its term.
func (g *folder) fill(b int) {
	g.fresh = nil
	for range g.next(3) * min(b, 1) {
		v := g.value(b)
		g.f.Blocks[b].Phis = append(g.f.Blocks[b].Phis, api.Phi{Dst: v})
	}
	for range g.next(9) {
		if g.next(3) == 0 {
			g.shape(b)
		} else {
			g.lay(b, g.instruction(b))
		}
	}
	g.f.Blocks[b].Term = g.term(b)
}

// last is the value that was made last: it counts as an operand by now.
func (g *folder) last() int {
	n := len(g.fresh) - 1
	v := g.fresh[n]
	g.fresh = g.fresh[:n]
	return v
}

// shape lays a Const, and what may have it inside: an instruction of its own, or an Add that an address is.
func (g *folder) shape(b int) {
	k := g.odd()
	g.lay(b, api.Ins{Op: api.Const, Imm: k})
	c := g.last()
	if g.next(2) == 0 {
		l := []int{api.Sub, api.And, api.Shl, api.Shr, api.Sar}
		g.lay(b, api.Ins{Op: l[g.next(len(l))], Args: []int{g.pick(b, 0), c}})
		return
	}
	g.lay(b, api.Ins{Op: api.Add, Args: []int{g.pick(b, 0), c}})
	address := g.last()
	together := []int32{-1, 0, 7, 255, 256, g.odd()}
	i := api.Ins{Op: api.Load, Args: []int{address}, Imm: together[g.next(6)] - k}
	if g.next(2) == 0 {
		i.Op, i.Args = api.Store, append(i.Args, g.pick(b, 0))
	}
	g.lay(b, i)
}

// instruction is one of any operation; those that patterns have inside are the most.
func (g *folder) instruction(b int) api.Ins {
	wishes := []int{api.Const, api.Const, api.Const, api.Add, api.Add, api.Mul, api.Load, api.Store}
	op := 1 + g.next(18)
	if g.next(2) == 0 {
		op = wishes[g.next(len(wishes))]
	}
	i := api.Ins{Op: op, Imm: g.odd()}
	switch op {
	case api.Const:
	case api.Load, api.Store:
		if g.next(2) == 0 {
			i.Imm = 0
		}
		i.Args = append(i.Args, g.pick(b, api.Add))
		if op == api.Store {
			i.Args = append(i.Args, g.pick(b, 0))
		}
	case api.Call:
		for range g.next(5) {
			i.Args = append(i.Args, g.pick(b, 0))
		}
	case api.Add:
		i.Args = append(i.Args, g.pick(b, []int{0, api.Mul}[g.next(2)]), g.pick(b, api.Const))
	default:
		i.Args = append(i.Args, g.pick(b, 0), g.pick(b, api.Const))
	}
	return i
}

// term goes on to the next block, and to any others; from the last one, now and then, nowhere.
func (g *folder) term(b int) api.Term {
	n := len(g.f.Blocks)
	t := api.Term{Imm: g.odd()}
	if b+1 < n {
		t.To = append(t.To, b+1)
	}
	for n > 1 && g.next(2) > 0 {
		t.To = slices.Insert(t.To, g.next(len(t.To)+1), 1+g.next(n-1))
	}
	compare := []int{api.Eq, api.Lt, api.Ltu}[g.next(3)]
	switch len(t.To) {
	case 0:
		t.Kind = api.Ret + g.next(2)
		if t.Kind == api.Ret && g.next(4) > 0 {
			t.Args = []int{g.pick(b, 0)}
		}
	case 1:
		t.Kind = api.Jump
	case 2:
		t.Kind, t.Args = api.Branch, []int{g.compared(b, compare)}
		if g.next(4) == 0 {
			t.Kind = api.Switch
		}
	default:
		t.Kind, t.Args = api.Switch, []int{g.pick(b, 0)}
	}
	return t
}

// compared is an operand for a Branch: often a compare that was laid just for it.
func (g *folder) compared(b, op int) int {
	if g.next(2) == 0 {
		g.lay(b, api.Ins{Op: op, Args: []int{g.pick(b, 0), g.pick(b, 0)}})
	}
	return g.pick(b, op)
}

// phis gives all phis their operands.
func (g *folder) phis() {
	preds := graph.Preds(graph.Of(g.f))
	for b := range g.f.Blocks {
		for n := range g.f.Blocks[b].Phis {
			p := &g.f.Blocks[b].Phis[n]
			for _, from := range preds[b] {
				l := slices.Concat(g.all, g.own[from])
				p.In = append(p.In, api.In{From: from, Val: l[g.next(len(l))]})
			}
		}
	}
}

// Folded are many functions that may be, and that patterns of all kinds fit: most values are operands once, close behind. (Few of their runs come far: addresses are anything.)
func Folded(seed uint32, count int) []api.Func {
	next := Numbers(seed)
	var l []api.Func
	for range count {
		l = append(l, folded(next))
	}
	return l
}
