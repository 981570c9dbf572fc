package tile

import (
	"slices"

	"jacquard/api"
	"jacquard/check"
)

// site is where a pattern may be laid: an instruction, or a term.
type site struct {
	ins  api.Ins  // zero, where a term is
	term api.Term // zero, where an instruction is
	args []int    // the operands of either
	temp int
	// inner tells the instruction that makes a value, if that has such an operation, and may be inner to a tile here.
	inner func(v, op int) (api.Ins, bool)
}

// siteAt is a place of a block: an instruction, or behind them the term.
func siteAt(b api.Block, place int) site {
	if place == len(b.Ins) {
		return site{term: b.Term, args: b.Term.Args}
	}
	return site{ins: b.Ins[place], args: b.Ins[place].Args}
}

// suits tells whether a pattern is one of such operations, or terms, at all.
func (s site) suits(pat int) bool {
	switch {
	case pat == none:
		return s.term.Kind == api.Jump || s.term.Kind == api.Ret || s.term.Kind == api.Trap
	case !isPattern(pat):
		return false
	}
	return catalogue[pat].op == s.ins.Op && catalogue[pat].kind == s.term.Kind
}

// near is the Load, or Store, at an address and a number more.
func (s site) near(a int, more int32) api.Mach {
	if s.ins.Op == api.Store {
		return api.Mach{Op: api.MSt, A: a, B: s.args[1], Imm: more}
	}
	return api.Mach{Op: api.MLd, D: s.ins.Dst, A: a, Imm: more}
}

// far is the Load, or Store, at two values together.
func (s site) far(a, b int) api.Mach {
	if s.ins.Op == api.Store {
		return api.Mach{Op: api.MStX, A: a, B: b, C: s.args[1]}
	}
	return api.Mach{Op: api.MLdX, D: s.ins.Dst, A: a, B: b}
}

// at are the values that an address is made of, and behind them what is stored there.
func (s site) at(address ...int) []int {
	return append(address, s.args[1:]...)
}

// end is the end that goes on to where the term does.
func (s site) end(op, a, b int) api.End {
	return api.End{Op: op, A: a, B: b, To: slices.Clone(s.term.To)}
}

// scope is a block of a function that may be, with how often each value is an operand in all of that function.
type scope struct {
	block api.Block
	uses  []int
}

// inner tells the instruction that makes a value, if that has such an operation, and is foldable.
func (s scope) inner(v, op int) (api.Ins, bool) {
	at := slices.IndexFunc(s.block.Ins, func(i api.Ins) bool { return i.Op == op && i.Dst == v })
	if at < 0 || !s.foldable(v) {
		return api.Ins{}, false
	}
	return s.block.Ins[at], true
}

// foldable tells whether a value that is made in the block is.
func (s scope) foldable(v int) bool {
	// A value that is an operand once in all is foldable, if it is so in its block alone: the other blocks need not be gone over for each.
	return s.uses[v] == 1 && check.Foldable(api.Func{Blocks: []api.Block{s.block}}, v)
}
