package linear_test

import (
	"testing"

	"jacquard/api"
	"jacquard/linear"
	"jacquard/mach"
	"jacquard/phys"
	"jacquard/sample"
)

// busy is a loop that keeps ten registers.
func busy() api.MFunc {
	first := block(jump(1))
	for r := 1; r < 10; r++ {
		first.Ins = append(first.Ins, imm(api.MAddI, r, 0, int32(r)))
	}
	loop := block(bnz(0, 1, 2), imm(api.MAddI, 0, 0, -1))
	for r := 1; r < 9; r++ {
		loop.Ins = append(loop.Ins, abc(api.MAdd, r, r, r+1, 0))
	}
	return code(1, first, loop, block(ret(1)))
}

// TestFewer: with however few registers it does the same; with more it takes fewer steps (P13.5).
func TestFewer(t *testing.T) {
	m, in := busy(), api.Input{Args: row(9), Steps: 10000}
	want := mach.Run(m, in)
	for _, scratch := range []bool{false, true} {
		steps := map[int]int{}
		for k := api.MinRegs; k <= api.MaxRegs; k++ {
			p := hold(t, m, k, scratch)
			got := phys.Run(p, in)
			if steps[k] = got.Steps; got.End != want.End || got.Val != want.Val || got.Steps < want.Steps {
				t.Errorf("k %d: %v, not %v", k, got, want)
			}
		}
		if steps[4] <= steps[8] || steps[8] <= steps[16] {
			t.Errorf("scratch %v: steps %v", scratch, steps)
		}
	}
}

// TestSame: the same is done by all numbers of registers, of code of all kinds (P13.5).
func TestSame(t *testing.T) {
	for _, x := range sample.MSettled(38, 150) {
		for k := api.MinRegs; k <= api.MaxRegs; k++ {
			for _, scratch := range []bool{false, true} {
				p, e := linear.Func(x.M, k, scratch)
				if e != api.OK {
					t.Fatalf("%v: %v", x.M, e)
				}
				holdRun(t, x, p)
			}
		}
	}
}

// TestSteps: a program takes at least a step for each instruction that is not left out (P13.2).
func TestSteps(t *testing.T) {
	m := code(1, block(ret(1), mov(1, 0), li(2, 5), mov(1, 1), abc(api.MAdd, 1, 1, 2, 0)))
	for k := api.MinRegs; k <= api.MaxRegs; k++ {
		p := hold(t, m, k, false)
		o := phys.Run(p, sample.Args(8))
		if stay := len(p.Blocks[0].Ins) - linear.Laid(p); o.Val != 13 || o.Steps < stay+1 || stay < 1 {
			t.Errorf("k %d: %v of %v", k, o, p)
		}
	}
}

// TestSpared: where all wishes can be met nothing is laid in between; and what does nothing is left out.
func TestSpared(t *testing.T) {
	count := code(2, block(jump(1)), with(block(bnz(4, 3, 2), abc(api.MAdd, 3, 2, 1, 0), imm(api.MAddI, 4, 5, -1)), phi(2, 0, 0, 3, 3), phi(5, 0, 1, 3, 4)), block(ret(3)), block(jump(1)))
	for _, x := range []struct {
		name       string
		m          api.MFunc
		laid, left int
	}{
		{"a sum", code(2, block(ret(2), abc(api.MAdd, 2, 0, 1, 0))), 0, 0},
		{"a call of parameters", code(3, block(ret(3), call(3, 1, 0, 1, 2))), 0, 0},
		{"halves", code(2, block(ret(2), wide(2, 3, 0, 1))), 0, 0},
		{"copies", code(1, block(ret(3), mov(1, 0), mov(2, 1), mov(3, 2))), 0, 3},
		{"an operand that is made where it is taken", code(0, block(ret(2), li(0, 7), li(1, 8), call(2, 1, 1, 0))), 0, 0},
		{"a loop", count, 1, 0},
	} {
		for _, k := range []int{8, 16} {
			p, all := hold(t, x.m, k, true), 0
			for b := range p.Blocks {
				all += len(x.m.Blocks[b].Ins) - len(p.Blocks[b].Ins)
			}
			if got := linear.Laid(p); got != x.laid || all != x.left-x.laid {
				t.Errorf("%s: %d laid, %d left out: %v", x.name, got, all+got, p)
			}
		}
	}
}
