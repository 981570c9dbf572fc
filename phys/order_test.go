package phys_test

import (
	"math"
	"reflect"
	"testing"

	"jacquard/api"
	"jacquard/phys"
	"jacquard/sample"
)

// TestFirst: which fault of one instruction comes first (P12.1).
func TestFirst(t *testing.T) {
	five := api.Mach{Op: api.MCall, D: -1, Args: row(0, 1, 2, 3, 4)}
	for _, x := range []struct {
		name     string
		i        api.Mach
		k, slots int
		want     api.Errno
	}{
		{"an operation, and all else", api.Mach{Op: 32, D: -1, A: -1, Imm: -1}, 4, 0, api.ErrIns},
		{"too many operands, and registers", five, 2, 0, api.ErrIns},
		{"operands that are not in order, and a register", api.Mach{Op: api.MCall, Args: row(0, 9)}, 4, 0, api.ErrIns},
		{"a call's operand that there is not", call(0, 4), 3, 0, api.ErrReg},
		{"a call's D, and registers", api.Mach{Op: api.MCall, D: 1}, 0, 0, api.ErrIns},
		{"a wide product's E, and a register", api.Mach{Op: api.MMulw, E: 9, A: -1}, 4, 0, api.ErrIns},
		{"a wide product's register", mulw(-1, 0), 4, 0, api.ErrReg},
		{"a register, and a slot", sld(4, 9), 4, 2, api.ErrReg},
		{"a register that goes to a slot, and the slot", sst(-1, -1), 4, 2, api.ErrReg},
		{"a slot", sst(3, 2), 4, 2, api.ErrSlot},
		{"a slot, whose D is no register", api.Mach{Op: api.MSst, D: -1, A: 3, Imm: 1}, 4, 2, api.OK},
		{"a slot, whose A is no register", api.Mach{Op: api.MSld, D: 3, A: -1, Imm: 1}, 4, 2, api.OK},
		{"a made register, and a number", imm(api.MAddI, 4, 0, 128), 4, 0, api.ErrReg},
		{"a taken register, and a number", imm(api.MLd, 0, 4, 256), 4, 0, api.ErrReg},
		{"a stored register, and a number", api.Mach{Op: api.MSt, A: 0, B: 4, Imm: 256}, 4, 0, api.ErrReg},
		{"a number", api.Mach{Op: api.MSt, A: 0, B: 3, Imm: 256}, 4, 0, api.ErrImm},
		{"a swap's first", swap(4, 0), 4, 0, api.ErrReg},
		{"a swap's second", swap(0, 4), 4, 0, api.ErrReg},
		{"a swap with itself", swap(3, 3), 4, 0, api.OK},
		{"a swap of whatever number", api.Mach{Op: api.MSwap, D: -1, E: -1, C: -1, Imm: math.MinInt32}, 4, 0, api.OK},
	} {
		holdIns(t, x.name, x.i, x.k, x.slots, x.want)
	}
	holdEnd(t, "an end's shape, and its register", api.End{Op: api.EBnz, A: -1, To: row(7)}, 4, 2, api.ErrIns)
	holdEnd(t, "an end's register, and its To", bnz(-1, 0, 0), 4, 2, api.ErrReg)
	holdEnd(t, "a ret's To, and its register", api.End{Op: api.ERet, A: 1, To: row(1)}, 4, 2, api.ErrIns)
	holdEnd(t, "a ret of another register that there is", ret(1), 16, 2, api.ErrReg)
	holdEnd(t, "a ret of nothing", ret(math.MinInt), 4, 1, api.OK)
}

// TestOrder: which fault of a program comes first (P12.3).
func TestOrder(t *testing.T) {
	none := block(ret(-1))
	for _, x := range []struct {
		name string
		p    api.PFunc
		want fault
	}{
		{"instructions are ahead of an end", program(0, 4, 0, block(jump(0), li(0, 32768))), fault{api.ErrImm, 0, 0}},
		{"instructions in order", program(0, 4, 0, block(ret(-1), li(0, 1), li(0, 32768), li(4, 1))), fault{api.ErrImm, 0, 1}},
		{"an end behind instructions", program(0, 4, 0, block(jump(7), li(0, 1), li(1, 1))), fault{api.ErrBlock, 0, 2}},
		{"blocks in order", program(0, 4, 0, block(jump(7)), block(ret(-1), li(4, 1))), fault{api.ErrBlock, 0, 0}},
		{"blocks in order, not of ways", program(0, 4, 0, block(jump(2)), block(ret(1)), block(jump(1), li(0, 32768))), fault{api.ErrReg, 1, 0}},
		{"a slot beyond those that there are", program(0, 4, 1, block(ret(-1), sst(0, 0), sld(0, 1))), fault{api.ErrSlot, 0, 1}},
		{"a register beyond those that there are", program(0, 8, 1, block(ret(-1), li(7, 1), li(8, 1))), fault{api.ErrReg, 0, 1}},
		{"a block that nothing goes on to", program(0, 4, 0, none, none), fault{}},
		{"blocks that only go on to themselves", program(0, 4, 0, none, block(jump(1)), block(bnz(0, 2, 3)), block(jump(2))), fault{}},
		{"what is wrong in a block that nothing goes on to", program(0, 4, 0, none, block(ret(-1), call(0, 0), sld(0, 0))), fault{api.ErrSlot, 1, 1}},
		{"on to block 0, of a block that nothing goes on to", program(0, 4, 0, none, block(jump(0))), fault{api.ErrBlock, 1, 0}},
		{"on to block 0", program(0, 4, 0, block(bnz(0, 1, 0)), none), fault{api.ErrBlock, 0, 0}},
		{"both ways to one block", program(0, 4, 0, block(bnz(3, 1, 1)), none), fault{}},
		{"what was not set", program(0, 4, 9, block(ret(0), sld(1, 8), abc(api.MAdd, 0, 1, 3, 0))), fault{}},
		{"example: a call of register 1", program(0, 4, 0, block(ret(-1), api.Mach{Op: api.MCall, Args: row(1)})), fault{api.ErrIns, 0, 0}},
	} {
		hold(t, x.name, x.p, x.want)
	}
}

// TestFrom: which instructions others stand for plays no part (P12.3, P12.5).
func TestFrom(t *testing.T) {
	next := sample.Numbers(8)
	for _, x := range sample.PRuns(21, 2000) {
		p := sample.CopiedProgram(x.P)
		for _, b := range p.Blocks {
			for n := range b.Ins {
				b.Ins[n].From = sample.One(next, append(row(0, 1, 70000), far...)...)
			}
		}
		if got := told(p); got != (fault{}) {
			t.Fatalf("%v: %v", p, got)
		}
		if got, want := phys.Run(p, x.In), phys.Run(x.P, x.In); !reflect.DeepEqual(got, want) {
			t.Fatalf("%v, %v: %v, not %v", p, x.In, got, want)
		}
	}
}
