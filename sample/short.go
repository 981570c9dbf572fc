package sample

import "jacquard/api"

// Ret is a term that ends it, with a value or without.
func Ret(l ...int) api.Term { return api.Term{Kind: api.Ret, Args: l} }

// Jump is a term that goes on to a block.
func Jump(to int) api.Term { return api.Term{Kind: api.Jump, To: []int{to}} }

// Branch is a term that goes on by a value: to a, if it is not 0, else to b.
func Branch(v, a, b int) api.Term {
	return api.Term{Kind: api.Branch, Args: []int{v}, To: []int{a, b}}
}

// Switch is a term that goes on by a table.
func Switch(v int, to ...int) api.Term {
	return api.Term{Kind: api.Switch, Args: []int{v}, To: to}
}

// Const is a number.
func Const(dst int, imm int32) api.Ins { return api.Ins{Op: api.Const, Dst: dst, Imm: imm} }

// Two is an instruction of two values.
func Two(op, dst, a, b int) api.Ins { return api.Ins{Op: op, Dst: dst, Args: []int{a, b}} }

// Load is one at a value and a number.
func Load(dst, a int, imm int32) api.Ins {
	return api.Ins{Op: api.Load, Dst: dst, Args: []int{a}, Imm: imm}
}

// Store is one of v at a value and a number.
func Store(a, v int, imm int32) api.Ins {
	return api.Ins{Op: api.Store, Args: []int{a, v}, Imm: imm}
}

// Block is one without phis.
func Block(t api.Term, l ...api.Ins) api.Block { return api.Block{Ins: l, Term: t} }

// Func is one of such blocks.
func Func(params int, l ...api.Block) api.Func { return api.Func{Params: params, Blocks: l} }
