package sample

import "jacquard/api"

// Ret is a term that ends it, with a value or without.
func Ret(l ...int) api.Term { return api.Term{Kind: api.Ret, Args: l} }

// Jump is a term that goes on to a block.
func Jump(to int) api.Term { return api.Term{Kind: api.Jump, To: []int{to}} }

// Branch is a term that goes on by a value: to a, if it is not 0, else to b.
func Branch(v, a, b int) api.Term {
	return api.Term{Kind: api.Branch, Args: []int{v}, To: []int{a, b}}
}

// Switch is a term that goes on by a table.
func Switch(v int, to ...int) api.Term {
	return api.Term{Kind: api.Switch, Args: []int{v}, To: to}
}

// Const is a number.
func Const(dst int, imm int32) api.Ins { return api.Ins{Op: api.Const, Dst: dst, Imm: imm} }

// Two is an instruction of two values.
func Two(op, dst, a, b int) api.Ins { return api.Ins{Op: op, Dst: dst, Args: []int{a, b}} }

// Load is one at a value and a number.
func Load(dst, a int, imm int32) api.Ins {
	return api.Ins{Op: api.Load, Dst: dst, Args: []int{a}, Imm: imm}
}

// Store is one of v at a value and a number.
func Store(a, v int, imm int32) api.Ins {
	return api.Ins{Op: api.Store, Args: []int{a, v}, Imm: imm}
}

// Block is one without phis.
func Block(t api.Term, l ...api.Ins) api.Block { return api.Block{Ins: l, Term: t} }

// Func is one of such blocks.
func Func(params int, l ...api.Block) api.Func { return api.Func{Params: params, Blocks: l} }

// Phi is one of operands by where control comes from: blocks, each with an operand.
func Phi(dst int, l ...int) api.Phi {
	p := api.Phi{Dst: dst}
	for i := 0; i < len(l); i += 2 {
		p.In = append(p.In, api.In{From: l[i], Val: l[i+1]})
	}
	return p
}

// ERet is an end that returns a register; below 0, nothing.
func ERet(a int) api.End { return api.End{Op: api.ERet, A: a} }

// ETrap is an end by a trap.
func ETrap(imm int32) api.End { return api.End{Op: api.ETrap, Imm: imm} }

// EJ is an end that goes on to a block.
func EJ(to int) api.End { return api.End{Op: api.EJ, To: []int{to}} }

// EBnz is an end that goes on by a register.
func EBnz(a, yes, no int) api.End { return api.End{Op: api.EBnz, A: a, To: []int{yes, no}} }

// ETwo is an end that goes on by how two registers compare.
func ETwo(op, a, b, yes, no int) api.End {
	return api.End{Op: op, A: a, B: b, To: []int{yes, no}}
}

// EJt is an end that goes on by a table.
func EJt(a int, to ...int) api.End { return api.End{Op: api.EJt, A: a, To: to} }

// MLi is a number of 16 bits.
func MLi(d int, imm int32) api.Mach { return api.Mach{Op: api.MLi, D: d, Imm: imm} }

// MThree is an instruction of up to three registers.
func MThree(op, d, a, b, c int) api.Mach { return api.Mach{Op: op, D: d, A: a, B: b, C: c} }

// MImm is an instruction of a register and a number.
func MImm(op, d, a int, n int32) api.Mach { return api.Mach{Op: op, D: d, A: a, Imm: n} }

// MCall is a call.
func MCall(d int, callee int32, l ...int) api.Mach {
	return api.Mach{Op: api.MCall, D: d, Imm: callee, Args: l}
}

// MBlock is a block of machine code without phis.
func MBlock(e api.End, l ...api.Mach) api.MBlock { return api.MBlock{Ins: l, End: e} }

// With is a block of machine code with phis.
func With(b api.MBlock, l ...api.Phi) api.MBlock {
	b.Phis = l
	return b
}

// MFunc is machine code of blocks.
func MFunc(params int, l ...api.MBlock) api.MFunc { return api.MFunc{Params: params, Blocks: l} }

// MSwap is two registers that change places.
func MSwap(a, b int) api.Mach { return api.Mach{Op: api.MSwap, A: a, B: b} }

// MSld is a register out of a slot.
func MSld(d int, slot int32) api.Mach { return api.Mach{Op: api.MSld, D: d, Imm: slot} }

// MSst is a register into a slot.
func MSst(a int, slot int32) api.Mach { return api.Mach{Op: api.MSst, A: a, Imm: slot} }

// PBlock is a block of a program, whose instructions stand for those of the same numbers.
func PBlock(e api.End, l ...api.Mach) api.PBlock {
	b := api.PBlock{End: e}
	for n, i := range l {
		b.Ins = append(b.Ins, api.Placed{I: i, From: n})
	}
	return b
}

// PFunc is a program of blocks.
func PFunc(params, k, slots int, l ...api.PBlock) api.PFunc {
	return api.PFunc{Params: params, K: k, Slots: slots, Blocks: l}
}
