package linear_test

import (
	"math"
	"testing"

	"jacquard/api"
	"jacquard/linear"
	"jacquard/mach"
	"jacquard/phys"
	"jacquard/sample"
)

// Short forms for what is written out.
var (
	ret, trap, jump, bnz, end, jt = sample.ERet, sample.ETrap, sample.EJ, sample.EBnz, sample.ETwo, sample.EJt
	li, abc, imm, call            = sample.MLi, sample.MThree, sample.MImm, sample.MCall
	block, code, phi, with        = sample.MBlock, sample.MFunc, sample.Phi, sample.With
)

// row is one of words.
func row(l ...int32) []int32 { return l }

// liw is a number of 32 bits.
func liw(d int, n int32) api.Mach { return imm(api.MLiw, d, 0, n) }

// mov is a copy.
func mov(d, a int) api.Mach { return abc(api.MMov, d, a, 0, 0) }

// wide is a product of two words.
func wide(low, high, a, b int) api.Mach {
	return api.Mach{Op: api.MMulw, D: low, E: high, A: a, B: b}
}

// holdEach holds machine code, of all numbers of registers, with scratch and without, and that it ends with a word.
func holdEach(t *testing.T, name string, m api.MFunc, in api.Input, want int32) {
	t.Helper()
	in.Steps = 1000
	if o := mach.Run(m, in); o.End != api.EndRet || o.Val != want {
		t.Fatalf("%s: %v of the machine code, not %d", name, o, want)
	}
	for k := api.MinRegs; k <= api.MaxRegs; k++ {
		for _, scratch := range []bool{false, true} {
			holdRun(t, sample.MRun{M: m, In: in}, hold(t, m, k, scratch))
		}
	}
}

// TestExamples: the document's.
func TestExamples(t *testing.T) {
	m := code(2, block(ret(2), abc(api.MAdd, 2, 0, 1, 0)))
	for _, scratch := range []bool{false, true} {
		p := hold(t, m, 8, scratch)
		if o := phys.Run(p, sample.Args(5, 9)); o.End != api.EndRet || o.Val != 14 || p.Slots != 0 {
			t.Errorf("%v, of %v", o, p)
		}
	}
	if p, e := linear.Func(code(0, block(ret(7))), 8, false); e != api.ErrUse || p.Blocks != nil {
		t.Errorf("%v %v", p, e)
	}
}

// plain is machine code, an input, and what it returns.
type plain struct {
	name string
	m    api.MFunc
	in   api.Input
	want int32
}

// small is code of one block.
func small() []plain {
	all := api.Input{Args: row(1, 20, 300, 4000)}
	sum := []api.Mach{abc(api.MAdd, 4, 0, 1, 0), abc(api.MAdd, 5, 2, 3, 0), abc(api.MSub, 6, 5, 4, 0)}
	return []plain{
		{"nothing", code(0, block(ret(-7))), api.Input{}, 0},
		{"a parameter", code(1, block(ret(0))), all, 1},
		{"the last parameter", code(4, block(ret(3))), all, 4000},
		{"all parameters", code(4, block(ret(6), sum...)), all, 4279},
		{"the first parameter and the last one", code(4, block(ret(4), abc(api.MSub, 4, 3, 0, 0))), all, 3999},
		{"the last two parameters", code(4, block(ret(4), abc(api.MSub, 4, 3, 2, 0))), all, 3700},
		{"the last parameter, where one goes about", code(4, block(ret(5), wide(4, 5, 3, 3), abc(api.MMadd, 5, 4, 1, 3))), all, 320004000},
		{"parameters that are taken last first", code(4, block(ret(6), abc(api.MSub, 4, 3, 2, 0), abc(api.MSub, 5, 4, 1, 0), abc(api.MSub, 6, 5, 0, 0))), all, 3679},
		{"a parameter that is not taken, but made anew", code(2, block(ret(0), imm(api.MAddI, 0, 1, 7))), all, 27},
		{"a parameter for all operands", code(1, block(ret(1), abc(api.MMadd, 1, 0, 0, 0))), api.Input{Args: row(7)}, 56},
		{"three operands", code(3, block(ret(2), abc(api.MMadd, 2, 2, 1, 0))), all, 6001},
		{"what is made in vain", code(1, block(ret(0), imm(api.MAddI, 1, 0, 1), li(2, 3), mov(3, 0), call(4, 1, 0), wide(5, 6, 0, 0))), all, 1},
		{"one half that is made in vain", code(2, block(ret(2), wide(2, 3, 0, 1))), all, 20},
		{"the other half", code(2, block(ret(3), wide(2, 3, 0, 1))), api.Input{Args: row(-5, 7)}, -1},
		{"both halves, of both", code(2, block(ret(0), wide(1, 0, 0, 1), abc(api.MSub, 0, 0, 1, 0))), api.Input{Args: row(1<<20, 1<<20)}, 256},
		{"halves that change about", code(2, block(ret(4), abc(api.MAdd, 2, 0, 1, 0), wide(1, 0, 0, 2), wide(0, 1, 0, 2), abc(api.MMadd, 4, 0, 2, 1))), api.Input{Args: row(1<<30, 9)}, func() int32 {
			a, b := int64(1<<30), int64(1<<30+9)
			low := (a * b >> 32) * b
			return int32(low)*int32(b) + int32(low>>32)
		}()},
		{"copies", code(2, block(ret(4), mov(2, 0), mov(3, 1), mov(0, 3), mov(1, 2), abc(api.MSub, 4, 0, 1, 0))), all, 19},
		{"a copy of itself", code(1, block(ret(0), mov(0, 0))), all, 1},
		{"the greatest registers", code(1, block(ret(8191), imm(api.MAddI, 8190, 0, 1), abc(api.MAdd, 8191, 8190, 0, 0))), all, 3},
	}
}

// calls are code of calls.
func calls() []plain {
	all := api.Input{Args: row(1, 20, 300, 4000), Answers: row(5, 60, 700)}
	four := func(a, b, c, d int) api.MFunc {
		return code(4, block(ret(5), call(4, 9, a, b, c, d), abc(api.MMadd, 5, 4, 0, 3)))
	}
	return []plain{
		{"operands in order", four(0, 1, 2, 3), all, 4005},
		{"operands the other way round", four(3, 2, 1, 0), all, 4005},
		{"operands that go round", four(1, 2, 3, 0), all, 4005},
		{"operands that go round the other way", four(3, 0, 1, 2), all, 4005},
		{"two by two", four(1, 0, 3, 2), all, 4005},
		{"one for all", four(3, 3, 3, 3), all, 4005},
		{"two, one of them again", four(1, 0, 0, 1), all, 4005},
		{"operands that are not needed any more", code(4, block(ret(4), call(4, 9, 3, 2, 1, 0))), all, 5},
		{"two that go round, and again", code(2, block(ret(4), call(4, 9, 1, 0, 0, 1))), all, 5},
		{"two that go round, and a third one", code(3, block(ret(4), call(4, 9, 1, 0, 2, 2))), all, 5},
		{"three that go round, and one again", code(3, block(ret(4), call(4, 9, 1, 2, 0, 1))), all, 5},
		{"three that go round", code(3, block(ret(3), call(3, 9, 1, 2, 0))), all, 5},
		{"numbers", code(0, block(ret(4), li(0, -32768), liw(1, 32768), liw(2, math.MinInt32), li(3, 32767), call(4, 9, 0, 1, 2, 3))), all, 5},
		{"numbers that are taken again", code(1, block(ret(6), li(2, 7), call(3, 9, 2, 0, 2), call(4, 9, 3, 2), abc(api.MMadd, 5, 2, 4, 3), abc(api.MAdd, 6, 5, 0, 0))), all, 426},
		{"what stays over calls", code(2, block(ret(1), call(2, 1, 0), call(3, 2), call(4, 3, 1, 2, 3), abc(api.MMadd, 0, 4, 3, 2), abc(api.MSub, 1, 0, 1, 0))), all, 41985},
		{"an answer that stays", code(0, block(ret(0), call(0, 1), call(1, 2), call(2, 3, 1), abc(api.MMadd, 0, 0, 1, 2))), all, 1000},
		{"a call in vain", code(1, block(ret(0), call(1, 1, 0), call(1, 2))), all, 1},
	}
}

// rounds is a loop of which three registers change about each time but the first; by a critical edge, or by a block of its own.
func rounds(n int32, critical bool) api.MFunc {
	from, back := 3, bnz(8, 3, 2)
	if critical {
		from, back = 1, bnz(8, 1, 2)
	}
	loop := with(block(back, imm(api.MAddI, 8, 7, -1)), phi(4, 0, 0, from, 5), phi(5, 0, 1, from, 6), phi(6, 0, 2, from, 4), phi(7, 0, 3, from, 8))
	m := code(3, block(jump(1), liw(3, n)), loop, block(ret(10), abc(api.MMadd, 9, 4, 5, 6), abc(api.MSub, 10, 9, 4, 0)))
	if !critical {
		m.Blocks = append(m.Blocks, block(jump(1)))
	}
	return m
}

// swapped is a loop of which two registers change places each time, that also call.
func swapped() api.MFunc {
	loop := with(block(bnz(5, 3, 2), imm(api.MAddI, 5, 4, -1), call(6, 1, 2, 3)), phi(2, 0, 0, 3, 3), phi(3, 0, 1, 3, 2), phi(4, 0, 8, 3, 5))
	return code(2, block(jump(1), li(8, 4)), loop, block(ret(7), abc(api.MSub, 7, 2, 3, 0)), block(jump(1)))
}

// lost is a loop whose phi is taken behind it, when it would have its next word already.
func lost() api.MFunc {
	loop := with(block(bnz(0, 1, 2), imm(api.MAddI, 2, 1, 1), imm(api.MAddI, 0, 0, -1)), phi(1, 0, 3, 1, 2))
	return code(1, block(jump(1), li(3, 0)), loop, block(ret(1)))
}

// fork is a block that goes on to two others by what their phis take, and make.
func fork(same bool) api.MFunc {
	to := 2
	if same {
		to = 1
	}
	m := code(2, block(end(api.EBlt, 0, 1, 1, to), li(5, 3)),
		with(block(ret(4), abc(api.MSub, 4, 2, 3, 0)), phi(2, 0, 1), phi(3, 0, 0)),
		with(block(ret(4), abc(api.MMadd, 4, 0, 2, 5)), phi(2, 0, 0), phi(0, 0, 5)))
	if same {
		m.Blocks = m.Blocks[:2]
	}
	return m
}

// joined are phis that take numbers, of which some are as great as may be, and what else there is.
func joined() api.MFunc {
	return code(2, block(jt(0, 1, 2, 3), li(2, 5), liw(3, math.MaxInt32), liw(4, math.MinInt32)),
		block(jump(4)),
		block(jump(4), li(2, 5)),
		block(bnz(1, 4, 4), imm(api.MAddI, 5, 1, 1)),
		with(block(ret(8), abc(api.MXor, 8, 6, 7, 0), abc(api.MAdd, 8, 8, 9, 0)), phi(6, 1, 3, 2, 4, 3, 1), phi(7, 1, 2, 2, 1, 3, 2), phi(9, 1, 1, 2, 2, 3, 4)))
}

// loops is code that has some, or other ways.
func loops() []plain {
	all := api.Input{Args: row(1, 20, 300), Answers: row(5, 60, 700)}
	l := []plain{
		{"two that change places", swapped(), all, 19},
		{"what would be lost", lost(), api.Input{Args: row(7)}, 6},
		{"what would be lost, the first time", lost(), api.Input{Args: row(1)}, 0},
		{"a fork, one way", fork(false), all, 19},
		{"a fork, the other way", fork(false), api.Input{Args: row(8, 3)}, 27},
		{"a fork of one way", fork(true), all, 19},
		{"phis of numbers, the first way", joined(), api.Input{Args: row(0, 9)}, math.MinInt32 + 3},
		{"phis of numbers, the second way", joined(), api.Input{Args: row(1, 9)}, math.MinInt32 + 9 + 5},
		{"phis of numbers, the last way", joined(), api.Input{Args: row(-1, 9)}, math.MinInt32 + 12},
	}
	for n, want := range row(319, 5981, 20, 319) {
		for _, critical := range []bool{false, true} {
			l = append(l, plain{"three that go round", rounds(int32(n)+1, critical), all, want})
		}
	}
	return l
}

// TestPlain: what is written out gets registers, and does the same, with however many (P13.2, P13.5).
func TestPlain(t *testing.T) {
	for _, l := range [][]plain{small(), calls(), loops()} {
		for _, x := range l {
			holdEach(t, x.name, x.m, x.in, x.want)
		}
	}
}
