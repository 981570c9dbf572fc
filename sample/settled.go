package sample

import (
	"slices"

	"jacquard/api"
	"jacquard/choose"
	"jacquard/live"
	"jacquard/split"
	"jacquard/tile"
)

// Settled is machine code with all set ahead of it that it would take before it has made it.
func Settled(next func(int) int, m api.MFunc) api.MFunc {
	in, _ := live.Sets(m)
	var l []api.Mach
	for _, r := range in[0] {
		if r >= m.Params {
			l = append(l, api.Mach{Op: api.MLi, D: r, Imm: int32(next(40) - 5)})
		}
	}
	m.Blocks[0].Ins = slices.Concat(l, m.Blocks[0].Ins)
	return m
}

// MSettled are many: of few registers and of many, that take none that was not set, and mostly do not trap.
func MSettled(seed uint32, count int) []MRun {
	next := Numbers(seed)
	var l []MRun
	for range count {
		m := Settled(next, MWide(next, 6, One(next, 3, 5, 9, 9, 14, 24)))
		in := Full(next)
		in.Steps = 300
		l = append(l, MRun{m, in})
	}
	return l
}

// MChosen are many that were chosen of functions: they are in SSA form, and have no critical edges.
func MChosen(seed uint32, count int) []MRun {
	next := Numbers(seed)
	var l []MRun
	for _, r := range Runs(seed, count) {
		f, _ := split.Func(r.F)
		m, _, _ := choose.Func(f, tile.All())
		in := Full(next)
		in.Steps = 300
		l = append(l, MRun{m, in})
	}
	return l
}

// straightener makes code of one block.
type straightener struct {
	grower
	most int   // how many registers a place may have
	live []int // those that may be taken yet
	made int   // how many are made by now
}

// Straight is code of one block, of instructions that may be of any registers, each register made once, no place with more than so many.
func Straight(next func(int) int, most, count int) api.MFunc {
	params := next(min(most, api.MaxArgs) + 1)
	g := straightener{grower{next, 1, api.MFunc{Params: params, Blocks: make([]api.MBlock, 1)}}, most, nil, params}
	for r := range params {
		g.live = append(g.live, r)
	}
	for range count {
		g.any()
	}
	for len(g.live) > 1 {
		two := MThree(One(next, api.MXor, api.MAdd, api.MSub, api.MLtu), 0, g.live[0], g.live[1], 0)
		g.live = g.live[2:]
		g.make(two)
	}
	g.m.Blocks[0].End = One(next, ERet(-1), ETrap(3))
	if len(g.live) > 0 {
		g.m.Blocks[0].End = ERet(g.live[0])
	}
	return g.m
}

// any lays any instruction.
func (g *straightener) any() {
	i := g.instruction()
	if len(g.live) == 0 || i.Op == api.MCall || i.Op == api.MMulw {
		i = MLi(0, int32(g.next(90)))
	} else {
		i.A, i.B, i.C = One(g.next, g.live...), One(g.next, g.live...), One(g.next, g.live...)
	}
	g.make(i)
}

// make lays one that makes the next register, mostly to be taken; where that is one too many, another one is not to be any more.
func (g *straightener) make(i api.Mach) {
	places := g.most
	if makes, _ := Named(i); len(makes) > 0 {
		i.D = g.made
		if i.D%2 == 1 {
			i.D = api.MaxValues - g.made
		}
		g.made++
		places--
	}
	g.lay(0, i)
	for len(g.live) > places {
		n := g.next(len(g.live))
		g.live = slices.Delete(g.live, n, n+1)
	}
	if places < g.most && g.next(8) > 0 {
		g.live = append(g.live, i.D)
	}
}
