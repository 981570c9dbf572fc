package phys_test

import (
	"math"
	"reflect"
	"slices"
	"testing"

	"jacquard/api"
	"jacquard/mach"
	"jacquard/phys"
	"jacquard/sample"
)

// Short forms for outcomes.
var args, alike, ended = sample.Args, sample.Alike, sample.Ended

// runs holds an outcome against what is written out, and against what is reckoned a second time.
func runs(t *testing.T, name string, p api.PFunc, in api.Input, want api.Outcome) {
	t.Helper()
	if got := phys.Run(p, in); !alike(got, want) {
		t.Errorf("%s: %v, not %v", name, got, want)
	}
	if got := reckoned(p, in); !alike(got, want) {
		t.Errorf("%s: by the words %v, not %v", name, got, want)
	}
}

// TestSecond: programs of all kinds do what the document's words say (P12.5).
func TestSecond(t *testing.T) {
	seen, ops, calls, steps := map[[2]int32]int{}, map[int]int{}, 0, 0
	for _, x := range sample.PRuns(3, 30000) {
		want := reckoned(x.P, x.In)
		if got := phys.Run(x.P, x.In); !alike(got, want) {
			t.Fatalf("%v, %v: %v, not %v", x.P, x.In, got, want)
		}
		key := [2]int32{int32(want.End)}
		if want.End == api.EndTrap && (want.Val == api.TrapDiv || want.Val == api.TrapMem) {
			key[1] = want.Val
		}
		seen[key]++
		calls, steps = calls+len(want.Calls), steps+want.Steps
		for _, i := range x.P.Blocks[0].Ins {
			ops[i.I.Op]++
		}
	}
	for _, key := range [][2]int32{{api.EndRet}, {api.EndTrap}, {api.EndTrap, api.TrapDiv}, {api.EndTrap, api.TrapMem}, {api.EndSteps}} {
		if seen[key] < 500 {
			t.Errorf("only %d runs end so: %v", seen[key], key)
		}
	}
	if calls < 10000 || steps < 300000 {
		t.Errorf("only %d calls, %d steps", calls, steps)
	}
	for op := 1; op <= 31; op++ {
		if ops[op] < 1000 {
			t.Errorf("only %d of %d", ops[op], op)
		}
	}
}

// TestExample: that of the chapter (P12.5).
func TestExample(t *testing.T) {
	runs(t, "example", program(2, 4, 0, block(ret(0), swap(0, 1), abc(api.MSub, 0, 0, 1, 0))), args(5, 9), ended(api.EndRet, 4, 3))
}

// TestLikeLayer7: without what registers and slots bring along a program does what the same code does with virtual registers (P12.5).
func TestLikeLayer7(t *testing.T) {
	seen := map[int]int{}
	for _, x := range sample.PRuns(12, 10000) {
		m, p := api.MFunc{Params: x.P.Params}, sample.CopiedProgram(x.P)
		for b, l := range p.Blocks {
			own := func(i api.Placed) bool {
				return slices.Contains(row(api.MSwap, api.MCall, api.MSld, api.MSst), i.I.Op)
			}
			p.Blocks[b].Ins = slices.DeleteFunc(l.Ins, own)
			y := api.MBlock{End: l.End}
			for _, i := range p.Blocks[b].Ins {
				y.Ins = append(y.Ins, i.I)
			}
			m.Blocks = append(m.Blocks, y)
		}
		if !mach.Right(m) {
			continue
		}
		want := mach.Run(m, x.In)
		if got := phys.Run(p, x.In); !alike(got, want) {
			t.Fatalf("%v, %v: %v, not %v", p, x.In, got, want)
		}
		seen[want.End]++
	}
	if seen[api.EndRet] < 300 || seen[api.EndTrap] < 300 || seen[api.EndSteps] < 300 {
		t.Errorf("ends: %v", seen)
	}
}

// TestWrong: of code that may not be nothing is told but that (P12.5).
func TestWrong(t *testing.T) {
	full := api.Input{Args: []int32{1, 2, 3, 4}, Mem: []int32{5, 6}, Answers: []int32{7}, Steps: 100}
	for name, p := range map[string]api.PFunc{
		"nothing":                         {},
		"no blocks":                       program(2, 4, 0),
		"five parameters":                 program(5, 4, 0, block(ret(0))),
		"three registers":                 program(0, 3, 0, block(ret(0))),
		"too many registers":              program(0, 17, 0, block(ret(0))),
		"too many slots":                  program(0, 4, 16385, block(ret(0))),
		"a great many slots":              program(0, 4, math.MaxInt, block(ret(0))),
		"fewer slots than none":           program(0, 4, math.MinInt, block(ret(0))),
		"too many blocks":                 program(0, 4, 0, make([]api.PBlock, 513)...),
		"an unknown operation":            program(0, 4, 0, block(ret(0), li(0, 1), api.Mach{Op: 32})),
		"control":                         program(0, 4, 0, block(ret(0), api.Mach{Op: 40})),
		"a register":                      program(0, 4, 0, block(ret(0), swap(0, 4))),
		"a slot":                          program(0, 4, 3, block(ret(0), sld(0, 3))),
		"a slot below 0":                  program(0, 4, 3, block(ret(0), sst(0, -1))),
		"a number":                        program(0, 4, 0, block(ret(0), li(0, 32768))),
		"a call of another register":      program(0, 4, 0, block(ret(0), api.Mach{Op: api.MCall, Args: row(1)})),
		"a call into another register":    program(0, 4, 0, block(ret(0), api.Mach{Op: api.MCall, D: 1})),
		"a product into others":           program(0, 4, 0, block(ret(0), api.Mach{Op: api.MMulw, D: 2, E: 3})),
		"no end":                          program(0, 4, 0, block(api.End{}, li(0, 1))),
		"a ret of another register":       program(0, 4, 0, block(ret(1))),
		"on to block 0":                   program(0, 4, 0, block(jump(0))),
		"a block that nothing goes on to": program(0, 4, 0, block(ret(0)), block(ret(1))),
		"fine, but for its last end":      program(1, 4, 0, block(jump(1), call(7, 1)), block(bnz(-1, 1, 1))),
	} {
		for _, in := range []api.Input{full, {}, {Steps: -1}} {
			if got := phys.Run(p, in); !reflect.DeepEqual(got, api.Outcome{End: api.EndWrong}) {
				t.Errorf("%s: %v", name, got)
			}
		}
	}
}

// telling is a program of one block that, at its end, tells its callee of the first four registers, then of each other one, then of each slot, by way of register 0.
func telling(p api.PFunc) api.PFunc {
	tells := []api.Mach{call(1000, 4)}
	for r := 4; r < p.K; r++ {
		tells = append(tells, imm(api.MMov, 0, r, 0), call(1000, 1))
	}
	for n := range p.Slots {
		tells = append(tells, sld(0, int32(n)), call(1000, 1))
	}
	first := p.Blocks[0]
	p.Blocks = []api.PBlock{{Ins: slices.Concat(first.Ins, block(first.End, tells...).Ins), End: first.End}}
	return p
}

// had is what registers and slots had, by what a callee was told behind some calls.
func had(o api.Outcome, calls int) []int32 {
	var l []int32
	for _, e := range o.Calls[calls:] {
		l = append(l, e.Args...)
	}
	return l
}

// TestBegin: registers begin as the parameters, all others, and all slots, with 0 (P12.5).
func TestBegin(t *testing.T) {
	for params := range api.MaxArgs + 1 {
		for _, k := range row(4, 5, 15, 16) {
			for count := range 7 {
				in := args([]int32{11, -12, 13, math.MinInt32, 15, 16}[:count]...)
				want := make([]int32, k+9)
				copy(want[:params], in.Args)
				o := phys.Run(telling(program(params, k, 9, block(ret(-1)))), in)
				if got := had(o, 0); !slices.Equal(got, want) || o.End != api.EndRet {
					t.Errorf("%d parameters, %d registers, %v: %v", params, k, in.Args, got)
				}
			}
		}
	}
	long := []int32{1, 2, 3}
	runs(t, "a piece of a row", program(2, 4, 0, block(ret(0), swap(0, 1))), args(long[:1]...), ended(api.EndRet, 0, 2))
	runs(t, "the last slot", program(1, 4, 16384, block(ret(0), abc(api.MMov, 1, 0, 0, 0), sld(0, 16383), abc(api.MAdd, 0, 0, 1, 0))), args(7), ended(api.EndRet, 7, 4))
}

// TestCalls: events in order, answers one after the other, 0 behind the last one; registers 1 to 3 are spoilt, no others, and no slots (P12.5).
func TestCalls(t *testing.T) {
	fill := []api.Mach{li(0, 30), li(1, 31), li(2, 32), li(3, 33), li(4, 34), li(15, 45), sst(0, 0), sst(15, 1)}
	for n := range 5 {
		for _, answers := range [][]int32{nil, {-9}, {-9, 8}} {
			in := api.Input{Answers: answers, Steps: 1000}
			p := telling(program(0, 16, 2, block(ret(-1), append(slices.Clone(fill), call(77, n))...)))
			want := []int32{0, 24302, 24303, 24304, 34, 0, 0, 0, 0, 0, 0, 0, 0, 0, 0, 45, 30, 45}
			copy(want[:1], answers)
			o := phys.Run(p, in)
			if got := had(o, 1); !slices.Equal(got, want) {
				t.Errorf("of %d operands, answers %v: %v, not %v", n, answers, got, want)
			}
			if e := o.Calls[0]; e.Callee != 77 || !slices.Equal(e.Args, []int32{30, 31, 32, 33}[:n]) {
				t.Errorf("of %d operands: %v", n, e)
			}
		}
	}
	m := program(2, 4, 1, block(ret(0), call(100, 0), sst(0, 0), call(-7, 2), call(100, 4), call(math.MinInt32, 1)))
	for count := range 7 {
		in := args(8, 9)
		in.Answers = []int32{21, -22, 23, 24, 25, 26}[:count]
		w := make([]int32, 4)
		copy(w, in.Answers)
		events := []api.Event{{Callee: 100}, {Callee: -7, Args: []int32{w[0], 24302}}, {Callee: 100, Args: []int32{w[1], 24302, 24303, 24304}}, {Callee: math.MinInt32, Args: []int32{w[2]}}}
		runs(t, "calls", m, in, api.Outcome{End: api.EndRet, Val: w[3], Calls: events, Steps: 6})
		for steps, told := range row(0, 1, 1, 2, 3, 4) {
			in.Steps = steps
			runs(t, "some calls", m, in, api.Outcome{End: api.EndSteps, Calls: events[:told], Steps: steps})
		}
	}
}

// TestSlotsRun: what is stored into a slot is loaded out of it, and of no other; swaps, and wide products (P12.5).
func TestSlotsRun(t *testing.T) {
	p := program(3, 4, 16384, block(ret(0), sst(0, 0), sst(1, 16383), sst(2, 1), sst(1, 1), sld(3, 0), sld(0, 16383), sld(2, 1), sld(1, 2), call(5, 4)))
	runs(t, "slots", p, args(5, 6, 7), api.Outcome{End: api.EndRet, Calls: []api.Event{{Callee: 5, Args: []int32{6, 0, 6, 5}}}, Steps: 10})
	p = program(3, 16, 0, block(ret(0), swap(0, 2), swap(1, 1), abc(api.MMov, 15, 0, 0, 0), swap(3, 15), call(5, 4)))
	runs(t, "swaps", p, args(5, 6, 7), api.Outcome{End: api.EndRet, Calls: []api.Event{{Callee: 5, Args: []int32{7, 6, 5, 7}}}, Steps: 6})
	p = program(2, 4, 0, block(ret(0), mulw(0, 1), call(5, 2)))
	runs(t, "a wide product", p, args(-3, 1<<30), api.Outcome{End: api.EndRet, Calls: []api.Event{{Callee: 5, Args: []int32{1 << 30, -1}}}, Steps: 3})
	p = program(2, 4, 0, block(ret(0), mulw(1, 1), swap(0, 1)))
	runs(t, "of one register", p, args(0, math.MinInt32), ended(api.EndRet, 1<<30, 3))
	// The sum of 1 to a number, with one register more than there is: it is kept in slots.
	sum := program(1, 4, 2, block(jump(1), sst(0, 0), li(1, 0), sst(1, 1)),
		block(bnz(0, 2, 3), sld(0, 0)),
		block(jump(1), sld(1, 1), abc(api.MAdd, 1, 1, 0, 0), sst(1, 1), imm(api.MAddI, 0, 0, -1), sst(0, 0)),
		block(ret(0), sld(0, 1)))
	runs(t, "a sum", sum, args(10), ended(api.EndRet, 55, 4+11*2+10*6+2))
	in := args(10)
	in.Steps = 87
	runs(t, "a sum, one step short", sum, in, ended(api.EndSteps, 0, 87))
}

// TestEnds: how each ends (P12.5).
func TestEnds(t *testing.T) {
	for _, v := range []int32{0, 7, api.TrapDiv, api.TrapMem, math.MinInt32, math.MaxInt32} {
		runs(t, "a trap", program(1, 4, 0, block(trap(v))), args(9), ended(api.EndTrap, v, 1))
		runs(t, "a ret", program(1, 4, 0, block(ret(0))), args(v), ended(api.EndRet, v, 1))
		for _, none := range row(-1, -2, math.MinInt) {
			runs(t, "a ret of nothing", program(1, 4, 0, block(api.End{Op: api.ERet, A: none, Imm: 5})), args(v), ended(api.EndRet, 0, 1))
		}
	}
	odd := []int32{math.MinInt32, -1, 0, 1, 2, 3, math.MaxInt32}
	for op := api.EBnz; op <= api.EJt; op++ {
		for _, a := range odd {
			for _, b := range odd {
				e := end(op, 0, 1, 2, 1)
				want := []int32{20, 10}[sample.Leads(e, []int64{int64(a), int64(b)})]
				runs(t, "an end", program(2, 4, 0, block(e), block(trap(10)), block(trap(20))), args(a, b), ended(api.EndTrap, want, 2))
			}
		}
	}
	table := program(1, 16, 0, block(jt(15, 1, 2, 1, 3), swap(0, 15)), block(trap(1)), block(trap(2)), block(trap(3)))
	for v, want := range map[int32]int32{0: 1, 1: 2, 2: 1, 3: 3, 4: 3, -1: 3, math.MinInt32: 3, math.MaxInt32: 3} {
		runs(t, "a table", table, args(v), ended(api.EndTrap, want, 3))
	}
}

// TestTraps: an instruction's trap ends a run; it is a step, too (P12.5).
func TestTraps(t *testing.T) {
	by0 := program(2, 4, 2, block(jump(1), sst(0, 0), sst(1, 1), call(1, 0)), block(ret(0), sld(0, 0), sld(1, 1), abc(api.MDiv, 0, 0, 1, 0), call(2, 1)))
	event := []api.Event{{Callee: 1}}
	runs(t, "by 0", by0, args(7), api.Outcome{End: api.EndTrap, Val: api.TrapDiv, Calls: event, Steps: 7})
	in := args(7, 2)
	in.Answers = []int32{4, 5}
	runs(t, "by 2", by0, in, api.Outcome{End: api.EndRet, Val: 5, Calls: []api.Event{{Callee: 1}, {Callee: 2, Args: []int32{3}}}, Steps: 9})
	put := program(2, 4, 0, block(ret(0), abc(api.MStX, 0, 0, 0, 1), imm(api.MLd, 2, 0, 1), abc(api.MSt, 0, 0, 1, 0), abc(api.MMov, 0, 2, 0, 0)))
	runs(t, "words", put, api.Input{Args: []int32{1, 9}, Mem: []int32{1, 2, 3}, Steps: 9}, api.Outcome{End: api.EndRet, Val: 9, Mem: []int32{1, 9, 9}, Steps: 5})
	runs(t, "no word", put, api.Input{Args: []int32{1, 9}, Mem: []int32{1, 2}, Steps: 9}, api.Outcome{End: api.EndTrap, Val: api.TrapMem, Mem: []int32{1, 2}, Steps: 1})
	store := program(1, 4, 0, block(ret(-1), abc(api.MSt, 0, 0, 0, 0)))
	for words, so := range map[int]bool{4095: false, 4096: true, 5000: true} {
		in := api.Input{Args: []int32{4095}, Mem: make([]int32, words), Steps: 9}
		want := api.Outcome{End: api.EndTrap, Val: api.TrapMem, Mem: make([]int32, min(words, 4096)), Steps: 1}
		if so {
			want.End, want.Val, want.Steps = api.EndRet, 0, 2
			want.Mem[4095] = 4095
		}
		runs(t, "the last word", store, in, want)
		in.Args[0], want = 4096, api.Outcome{End: api.EndTrap, Val: api.TrapMem, Mem: make([]int32, min(words, 4096)), Steps: 1}
		runs(t, "one too far", store, in, want)
	}
}

// TestSteps: each instruction and each end is one; with more of them a run goes on as it did with fewer (P12.5).
func TestSteps(t *testing.T) {
	for _, x := range sample.PRuns(19, 1000) {
		var before api.Outcome
		for steps := -2; steps < 60; steps++ {
			x.In.Steps = steps
			got := phys.Run(x.P, x.In)
			if !alike(got, reckoned(x.P, x.In)) {
				t.Fatalf("%v: %v", x, got)
			}
			if got.End == api.EndSteps && (got.Steps != max(steps, 0) || got.Val != 0) || got.Steps > max(steps, 0) {
				t.Fatalf("%v: %v", x, got)
			}
			if before.End != 0 && before.End != api.EndSteps && !alike(got, before) {
				t.Fatalf("%v: ended, %v, and with more steps %v", x, before, got)
			}
			before = got
		}
	}
	endless := program(0, 4, 0, block(jump(1)), block(jump(1), swap(0, 0), sst(0, 0)))
	endless.Slots = 1
	for _, steps := range row(math.MinInt, -1, 0, 1, 100000) {
		runs(t, "endless", endless, api.Input{Steps: steps}, ended(api.EndSteps, 0, max(steps, 0)))
	}
}

// TestKept: what is handed in stays as it was, and is not kept; what is told is the caller's, and the same each time (R1, R3, R4).
func TestKept(t *testing.T) {
	for _, x := range sample.PRuns(7, 3000) {
		p, in := sample.CopiedProgram(x.P), sample.CopiedInput(x.In)
		first, second := phys.Run(p, in), phys.Run(p, in)
		want := reckoned(x.P, x.In)
		if got := told(p); got != (fault{}) || !reflect.DeepEqual(p, x.P) || !reflect.DeepEqual(in, x.In) {
			t.Fatalf("%v, %v: changed to %v, %v", x.P, x.In, p, in)
		}
		sample.ScribbleOutcome(second)
		if !alike(first, want) || !reflect.DeepEqual(in, x.In) || !reflect.DeepEqual(p, x.P) {
			t.Fatalf("%v, %v: an answer shares something", p, in)
		}
		sample.ScribbleInput(in)
		sample.ScribbleProgram(p)
		if !alike(first, want) || !alike(phys.Run(x.P, x.In), want) {
			t.Fatalf("%v, %v: something was kept", x.P, x.In)
		}
	}
}
