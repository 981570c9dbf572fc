package mach_test

import (
	"math"
	"reflect"
	"slices"
	"testing"

	"jacquard/api"
	"jacquard/interp"
	"jacquard/mach"
	"jacquard/sample"
	"jacquard/tile"
)

// Short forms for outcomes.
var args, alike, ended = sample.Args, sample.Alike, sample.Ended

// runs holds an outcome against what is written out, and against what is reckoned a second time.
func runs(t *testing.T, name string, m api.MFunc, in api.Input, want api.Outcome) {
	t.Helper()
	if got := mach.Run(m, in); !alike(got, want) {
		t.Errorf("%s: %v, not %v", name, got, want)
	}
	if got := reckoned(m, in); !alike(got, want) {
		t.Errorf("%s: by the words %v, not %v", name, got, want)
	}
}

// TestSecond: code of all kinds does what the document's words say (P7.5).
func TestSecond(t *testing.T) {
	seen, calls, steps := map[[2]int32]int{}, 0, 0
	for _, x := range sample.MRuns(3, 30000) {
		want := reckoned(x.M, x.In)
		if got := mach.Run(x.M, x.In); !alike(got, want) {
			t.Fatalf("%v, %v: %v, not %v", x.M, x.In, got, want)
		}
		key := [2]int32{int32(want.End)}
		if want.End == api.EndTrap && (want.Val == api.TrapDiv || want.Val == api.TrapMem) {
			key[1] = want.Val
		}
		seen[key]++
		calls, steps = calls+len(want.Calls), steps+want.Steps
	}
	for _, key := range [][2]int32{{api.EndRet}, {api.EndTrap}, {api.EndTrap, api.TrapDiv}, {api.EndTrap, api.TrapMem}, {api.EndSteps}} {
		if seen[key] < 500 {
			t.Errorf("only %d runs end so: %v", seen[key], key)
		}
	}
	if calls < 10000 || steps < 300000 {
		t.Errorf("only %d calls, %d steps", calls, steps)
	}
}

// TestExample: that of the chapter (P7.5).
func TestExample(t *testing.T) {
	runs(t, "example", code(1, block(ret(1), imm(api.MAddI, 1, 0, -3))), args(5), ended(api.EndRet, 2, 2))
}

// TestWrong: of code that may not be nothing is told but that (P7.5).
func TestWrong(t *testing.T) {
	full := api.Input{Args: []int32{1, 2, 3, 4}, Mem: []int32{5, 6}, Answers: []int32{7}, Steps: 100}
	for name, m := range map[string]api.MFunc{
		"nothing":                     {},
		"no blocks":                   code(2),
		"five parameters":             code(5, block(ret(0))),
		"too many blocks":             {Blocks: make([]api.MBlock, 513)},
		"an unknown operation":        code(0, block(ret(0), li(0, 1), api.Mach{Op: 32})),
		"a swap":                      code(0, block(ret(0), api.Mach{Op: api.MSwap, A: 0, B: 1})),
		"a slot":                      code(0, block(ret(0), api.Mach{Op: api.MSld})),
		"no end":                      code(0, block(api.End{}, li(0, 1))),
		"a register":                  code(0, block(ret(8192))),
		"a number":                    code(0, block(ret(0), li(0, 32768))),
		"twice":                       code(0, block(ret(0), api.Mach{Op: api.MMulw})),
		"on to block 0":               code(0, block(jump(0))),
		"a block that is not reached": code(0, block(ret(0)), block(ret(0))),
		"a phi of block 0":            code(0, with(block(ret(0)), phi(0))),
		"a phi of another block":      code(1, block(jump(1)), with(block(ret(1)), phi(1, 1, 0))),
		"fine, but for its last end":  code(1, block(jump(1), call(1, 7, 0)), block(bnz(-1, 1, 1))),
	} {
		for _, in := range []api.Input{full, {}, {Steps: -1}} {
			if got := mach.Run(m, in); !reflect.DeepEqual(got, api.Outcome{End: api.EndWrong}) {
				t.Errorf("%s: %v", name, got)
			}
		}
	}
}

// TestBegin: registers begin as the parameters, all others with 0 (P7.5).
func TestBegin(t *testing.T) {
	for params := range api.MaxArgs + 1 {
		m := code(params, block(ret(4), call(9, 5, 0, 1, 2, 3)))
		for count := range 7 {
			in := args([]int32{11, -12, 13, math.MinInt32, 15, 16}[:count]...)
			words := make([]int32, 4)
			copy(words[:params], in.Args)
			runs(t, "parameters", m, in, api.Outcome{End: api.EndRet, Calls: []api.Event{{Callee: 5, Args: words}}, Steps: 2})
		}
	}
	runs(t, "what nothing makes", code(4, block(ret(8191), abc(api.MAdd, 8191, 8191, 4096, 0))), args(1, 2, 3, 4), ended(api.EndRet, 0, 2))
	runs(t, "a parameter is made again", code(2, block(ret(0), abc(api.MAdd, 0, 0, 1, 0), abc(api.MAdd, 0, 0, 0, 0))), args(3, 4), ended(api.EndRet, 14, 3))
	long := []int32{1, 2, 3}
	runs(t, "a piece of a row", code(2, block(ret(1))), args(long[:1]...), ended(api.EndRet, 0, 1))
}

// TestEnds: how each ends (P7.5).
func TestEnds(t *testing.T) {
	for _, v := range []int32{0, 7, api.TrapDiv, api.TrapMem, math.MinInt32, math.MaxInt32} {
		runs(t, "a trap", code(1, block(trap(v))), args(9), ended(api.EndTrap, v, 1))
		runs(t, "a ret", code(1, block(ret(0))), args(v), ended(api.EndRet, v, 1))
		for _, none := range []int{-1, -2, math.MinInt} {
			runs(t, "a ret of nothing", code(1, block(api.End{Op: api.ERet, A: none, Imm: 5})), args(v), ended(api.EndRet, 0, 1))
		}
	}
	for op := api.EBnz; op <= api.EJt; op++ {
		for _, a := range []int32{math.MinInt32, -1, 0, 1, 2, math.MaxInt32} {
			for _, b := range []int32{-1, 0, 1} {
				e := end(op, 0, 1, 2, 1)
				want := []int32{20, 10}[leads(e, []int64{int64(a), int64(b)})]
				runs(t, "an end", code(2, block(e), block(trap(10)), block(trap(20))), args(a, b), ended(api.EndTrap, want, 2))
			}
		}
	}
	table := code(1, block(jt(0, 1, 2, 1, 3)), block(trap(1)), block(trap(2)), block(trap(3)))
	for v, want := range map[int32]int32{0: 1, 1: 2, 2: 1, 3: 3, 4: 3, -1: 3, math.MinInt32: 3, math.MaxInt32: 3} {
		runs(t, "a table", table, args(v), ended(api.EndTrap, want, 2))
	}
}

// TestTraps: an instruction's trap ends a run; it is a step, too (P7.5).
func TestTraps(t *testing.T) {
	by0 := code(2, block(jump(1), call(7, 1)), block(ret(2), abc(api.MDiv, 2, 0, 1, 0), call(7, 2)))
	event := []api.Event{{Callee: 1}}
	runs(t, "by 0", by0, args(7), api.Outcome{End: api.EndTrap, Val: api.TrapDiv, Calls: event, Steps: 3})
	runs(t, "by 2", by0, args(7, 2), api.Outcome{End: api.EndRet, Val: 3, Calls: []api.Event{{Callee: 1}, {Callee: 2}}, Steps: 5})
	put := code(2, block(ret(2), abc(api.MStX, 0, 0, 0, 1), imm(api.MLd, 2, 0, 1), abc(api.MSt, 0, 0, 1, 0)))
	runs(t, "words", put, api.Input{Args: []int32{1, 9}, Mem: []int32{1, 2, 3}, Steps: 9}, api.Outcome{End: api.EndRet, Val: 9, Mem: []int32{1, 9, 9}, Steps: 4})
	runs(t, "no word", put, api.Input{Args: []int32{1, 9}, Mem: []int32{1, 2}, Steps: 9}, api.Outcome{End: api.EndTrap, Val: api.TrapMem, Mem: []int32{1, 2}, Steps: 1})
	for words, so := range map[int]bool{4095: false, 4096: true, 5000: true} {
		in := api.Input{Args: []int32{4095}, Mem: make([]int32, words), Steps: 9}
		want := api.Outcome{End: api.EndTrap, Val: api.TrapMem, Mem: make([]int32, min(words, 4096)), Steps: 1}
		if so {
			want.End, want.Val, want.Steps = api.EndRet, 0, 2
			want.Mem[4095] = 4095
		}
		runs(t, "the last word", code(1, block(ret(-1), abc(api.MSt, 0, 0, 0, 0))), in, want)
		in.Args[0], want = 4096, api.Outcome{End: api.EndTrap, Val: api.TrapMem, Mem: make([]int32, min(words, 4096)), Steps: 1}
		runs(t, "one too far", code(1, block(ret(-1), abc(api.MSt, 0, 0, 0, 0))), in, want)
	}
}

// TestCalls: events in order, and answers one after the other; 0 behind the last one (P7.5).
func TestCalls(t *testing.T) {
	m := code(2, block(ret(5), call(2, 100), call(0, -7, 1, 0), call(4, 100, 2, 0, 0, 2), call(5, math.MinInt32, 4)))
	for count := range 7 {
		in := args(8, 9)
		in.Answers = []int32{21, -22, 23, 24, 25, 26}[:count]
		w := make([]int32, 4)
		copy(w, in.Answers)
		events := []api.Event{{Callee: 100}, {Callee: -7, Args: []int32{9, 8}}, {Callee: 100, Args: []int32{w[0], w[1], w[1], w[0]}}, {Callee: math.MinInt32, Args: []int32{w[2]}}}
		runs(t, "calls", m, in, api.Outcome{End: api.EndRet, Val: w[3], Calls: events, Steps: 5})
		for steps := range 4 {
			in.Steps = steps
			runs(t, "some calls", m, in, api.Outcome{End: api.EndSteps, Calls: events[:steps], Steps: steps})
		}
	}
}

// TestPhis: what they take, by where control comes from, all at once; that is no step (P7.5).
func TestPhis(t *testing.T) {
	// 2 and 3 change places each time; 4 counts down.
	round := code(3, block(jump(1), abc(api.MMov, 5, 2, 0, 0), abc(api.MMov, 3, 1, 0, 0), abc(api.MMov, 2, 0, 0, 0)),
		with(block(bnz(4, 1, 2), call(9, 0, 2, 3)), phi(2, 0, 2, 1, 3), phi(3, 0, 3, 1, 2), phi(4, 0, 5, 1, 6), phi(6, 0, 7, 1, 6)), block(ret(3)))
	events := []api.Event{{Args: []int32{5, 6}}, {Args: []int32{6, 5}}}
	runs(t, "round", round, args(5, 6, 1), api.Outcome{End: api.EndRet, Val: 5, Calls: events, Steps: 9})
	runs(t, "not round", round, args(5, 6, 0), api.Outcome{End: api.EndRet, Val: 6, Calls: events[:1], Steps: 7})
	both := diamond(block(ret(0)), block(ret(0), li(5, 11)), block(ret(0), li(5, 22)), with(block(ret(0)), phi(3, 1, 5, 2, 5), phi(5, 1, 0, 2, 0)))
	runs(t, "by the first", both, args(9), ended(api.EndRet, 11, 4))
	runs(t, "by the second", both, args(0), ended(api.EndRet, 22, 4))
	own := code(1, block(jump(1)), with(block(bnz(0, 1, 2), imm(api.MAddI, 0, 0, -1), imm(api.MAddI, 3, 3, 1)), phi(3, 0, 0, 1, 3)), block(ret(3)))
	runs(t, "its own", own, args(4), ended(api.EndRet, 8, 14))
	runs(t, "steps, and phis", own, api.Input{Args: []int32{4}, Steps: 1}, ended(api.EndSteps, 0, 1))
}

// TestSteps: each instruction and each end is one; with more of them a run goes on as it did with fewer (P7.5).
func TestSteps(t *testing.T) {
	for _, x := range sample.MRuns(19, 1500) {
		var before api.Outcome
		for steps := -2; steps < 50; steps++ {
			x.In.Steps = steps
			got := mach.Run(x.M, x.In)
			if !alike(got, reckoned(x.M, x.In)) {
				t.Fatalf("%v: %v", x, got)
			}
			if got.End == api.EndSteps && (got.Steps != max(steps, 0) || got.Val != 0) || got.Steps > max(steps, 0) {
				t.Fatalf("%v: %v", x, got)
			}
			if before.End != 0 && before.End != api.EndSteps && !alike(got, before) {
				t.Fatalf("%v: ended, %v, and with more steps %v", x, before, got)
			}
			before = got
		}
	}
	endless := code(0, block(jump(1)), block(jump(1)))
	for _, steps := range []int{math.MinInt, -1, 0, 1, 100000} {
		runs(t, "endless", endless, api.Input{Steps: steps}, ended(api.EndSteps, 0, max(steps, 0)))
	}
}

// TestKept: what is handed in stays as it was, and is not kept; what is told is the caller's, and the same each time (P7.6, R1, R3, R4).
func TestKept(t *testing.T) {
	for _, x := range sample.MRuns(7, 3000) {
		m, in := sample.CopiedCode(x.M), sample.CopiedInput(x.In)
		first, second := mach.Run(m, in), mach.Run(m, in)
		want := reckoned(x.M, x.In)
		e, at, place := mach.Func(m)
		if !reflect.DeepEqual(m, sample.CopiedCode(x.M)) || !reflect.DeepEqual(in, x.In) || e != api.OK || at != 0 || place != 0 {
			t.Fatalf("%v, %v: changed to %v, %v", x.M, x.In, m, in)
		}
		sample.ScribbleOutcome(second)
		if !alike(first, want) || !reflect.DeepEqual(in, x.In) || !reflect.DeepEqual(m, sample.CopiedCode(x.M)) {
			t.Fatalf("%v, %v: an answer shares something", m, in)
		}
		sample.ScribbleInput(in)
		sample.ScribbleCode(m)
		if !alike(first, want) || !alike(mach.Run(x.M, x.In), want) {
			t.Fatalf("%v, %v: something was kept", x.M, x.In)
		}
	}
}

// TestKeptRows: registers of instructions and ends are rows of the caller's own; what they are told of stays as it was (P7.6, R1).
func TestKeptRows(t *testing.T) {
	rows := func(i api.Mach, e api.End) [][]int { return [][]int{mach.Takes(i), mach.Makes(i), mach.Needs(e)} }
	for op := range 33 {
		i := api.Mach{Op: op, D: 1, E: 2, A: 3, B: 4, C: 5, Args: []int{6, 7, 8}}
		e := api.End{Op: op, A: 3, B: 4, To: []int{5, 6}}
		first, second := rows(i, e), rows(i, e)
		for _, l := range second {
			_ = append(l, 99)
			clear(l)
		}
		if !reflect.DeepEqual(rows(i, e), first) || !slices.Equal(i.Args, []int{6, 7, 8}) {
			t.Errorf("%d: rows are shared", op)
		}
		regs := []int32{0, 1, 1, 2, 2, 3, 4}
		mach.Goes(e, regs)
		mach.Do(i, regs, nil)
		if !slices.Equal(i.Args, []int{6, 7, 8}) || !slices.Equal(e.To, []int{5, 6}) {
			t.Errorf("%d: changed", op)
		}
		clear(i.Args)
		if op == api.MCall && !slices.Equal(first[0], []int{6, 7, 8}) {
			t.Errorf("a call's operands are shared: %v", first)
		}
	}
}

// laid is a function as machine code: at each place the first pattern without inner values.
func laid(t *testing.T, f api.Func) api.MFunc {
	t.Helper()
	m := api.MFunc{Params: f.Params}
	for b, x := range f.Blocks {
		l := api.MBlock{Phis: x.Phis}
		for place := range len(x.Ins) + 1 {
			pat := 0
			for n := tile.Patterns(); n > 0; n-- {
				if _, inner, ok := tile.Match(f, b, place, n); ok && len(inner) == 0 {
					pat = n
				}
			}
			ins, end, ok := tile.Emit(f, b, place, pat, 100)
			if !ok {
				t.Fatalf("no pattern at %d, %d", b, place)
			}
			l.Ins, l.End = append(l.Ins, ins...), end
		}
		m.Blocks = append(m.Blocks, l)
	}
	return m
}

// sorted is a function that puts its memory in order, and tells its callee of each word; how many there are is a parameter.
func sorted() api.Func {
	op := func(o, dst int, l ...int) api.Ins { return api.Ins{Op: o, Dst: dst, Args: l} }
	return api.Func{Params: 1, Blocks: []api.Block{
		{Ins: []api.Ins{{Op: api.Const, Dst: 1}, {Op: api.Const, Dst: 2, Imm: 1}}, Term: api.Term{Kind: api.Jump, To: []int{1}}},
		{Phis: []api.Phi{phi(3, 0, 1, 2, 8, 3, 8, 5, 17)}, Ins: []api.Ins{op(api.Add, 4, 3, 2), op(api.Lt, 5, 4, 0)}, Term: api.Term{Kind: api.Branch, Args: []int{5}, To: []int{2, 4}}},
		{Ins: []api.Ins{{Op: api.Load, Dst: 6, Args: []int{3}}, {Op: api.Load, Dst: 7, Args: []int{3}, Imm: 1}, op(api.Add, 8, 3, 2), op(api.Lt, 9, 7, 6)}, Term: api.Term{Kind: api.Branch, Args: []int{9}, To: []int{3, 1}}},
		{Ins: []api.Ins{{Op: api.Store, Args: []int{3, 7}}, {Op: api.Store, Args: []int{3, 6}, Imm: 1}, {Op: api.Call, Dst: 10, Args: []int{6, 7}, Imm: 77}}, Term: api.Term{Kind: api.Switch, Args: []int{10}, To: []int{1, 5, 1}}},
		{Ins: []api.Ins{op(api.Mulw, 11, 0, 0), {Op: api.Div, Dst: 12, Args: []int{2, 0}}}, Term: api.Term{Kind: api.Ret, Args: []int{12}}},
		{Ins: []api.Ins{op(api.Sub, 13, 3, 3), op(api.Xor, 17, 13, 1)}, Term: api.Term{Kind: api.Jump, To: []int{1}}},
	}}
}

// TestLikeFunctions: code laid of a function, place by place, runs as the function does, step by step (P7.5).
func TestLikeFunctions(t *testing.T) {
	f := sorted()
	f.Blocks[4].Ins[0].Two, f.Blocks[4].Ins[0].Args = 14, []int{2, 2}
	m, next, seen := laid(t, f), sample.Numbers(7), map[int]int{}
	if got := told(m); got != (fault{}) {
		t.Fatalf("%v: %v", m, got)
	}
	for range 3000 {
		in := api.Input{Args: []int32{int32(next(7))}, Mem: sample.MWords(next, 9), Steps: next(120)}
		for range next(20) {
			in.Answers = append(in.Answers, int32(next(4)))
		}
		want := interp.Run(f, in)
		if got := mach.Run(m, in); !alike(got, want) {
			t.Fatalf("%v: %v, not %v", in, got, want)
		}
		seen[want.End]++
	}
	if seen[api.EndRet] < 300 || seen[api.EndTrap] < 300 || seen[api.EndSteps] < 300 {
		t.Errorf("ends: %v", seen)
	}
}
