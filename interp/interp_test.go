package interp_test

import (
	"math"
	"reflect"
	"slices"
	"testing"

	"jacquard/api"
	"jacquard/check"
	"jacquard/interp"
	"jacquard/sample"
)

// Short forms for what is written out.
func ret(l ...int) api.Term           { return api.Term{Kind: api.Ret, Args: l} }
func jump(to int) api.Term            { return api.Term{Kind: api.Jump, To: []int{to}} }
func branch(v, a, b int) api.Term     { return api.Term{Kind: api.Branch, Args: []int{v}, To: []int{a, b}} }
func turn(v int, to ...int) api.Term  { return api.Term{Kind: api.Switch, Args: []int{v}, To: to} }
func trap(imm int32) api.Term         { return api.Term{Kind: api.Trap, Imm: imm} }
func con(dst int, imm int32) api.Ins  { return api.Ins{Op: api.Const, Dst: dst, Imm: imm} }
func op(o, dst int, l ...int) api.Ins { return api.Ins{Op: o, Dst: dst, Args: l} }
func load(dst, a int, imm int32) api.Ins {
	return api.Ins{Op: api.Load, Dst: dst, Args: []int{a}, Imm: imm}
}
func store(a int, imm int32, v int) api.Ins {
	return api.Ins{Op: api.Store, Args: []int{a, v}, Imm: imm}
}
func call(dst int, callee int32, l ...int) api.Ins {
	return api.Ins{Op: api.Call, Dst: dst, Args: l, Imm: callee}
}
func mulw(dst, two, a, b int) api.Ins {
	return api.Ins{Op: api.Mulw, Dst: dst, Two: two, Args: []int{a, b}}
}
func block(t api.Term, l ...api.Ins) api.Block { return api.Block{Ins: l, Term: t} }
func function(params int, l ...api.Block) api.Func {
	return api.Func{Params: params, Blocks: l}
}

// phi is one of operands by where control comes from.
func phi(dst int, l ...int) api.Phi { return sample.Phi(dst, l...) }

// with is a block with phis.
func with(b api.Block, l ...api.Phi) api.Block {
	b.Phis = l
	return b
}

// Short forms for outcomes.
var args, alike, ended = sample.Args, sample.Alike, sample.Ended

// hold holds an outcome against what is written out, and against what is reckoned a second time.
func hold(t *testing.T, name string, f api.Func, in api.Input, want api.Outcome) {
	t.Helper()
	if !check.Right(f) {
		t.Errorf("%s: it may not be", name)
	}
	if got := interp.Run(f, in); !alike(got, want) {
		t.Errorf("%s: %v, not %v", name, got, want)
	}
	if got, _ := reckoned(f, in); !alike(got, want) {
		t.Errorf("%s: by the words %v, not %v", name, got, want)
	}
}

// how is how a run ended; Val only of traps of instructions.
type how struct {
	end int
	val int32
}

// TestSecond: functions of all kinds do what the document's words say (P4.2).
func TestSecond(t *testing.T) {
	seen, calls, stores, steps := map[how]int{}, 0, 0, 0
	for _, x := range sample.Runs(3, 30000) {
		if !check.Right(x.F) {
			t.Fatalf("%v may not be", x.F)
		}
		want, stored := reckoned(x.F, x.In)
		if got := interp.Run(x.F, x.In); !alike(got, want) {
			t.Fatalf("%v, %v: %v, not %v", x.F, x.In, got, want)
		}
		key := how{end: want.End}
		if want.End == api.EndTrap && (want.Val == api.TrapDiv || want.Val == api.TrapMem) {
			key.val = want.Val
		}
		seen[key]++
		calls, stores, steps = calls+len(want.Calls), stores+len(stored), steps+want.Steps
	}
	for _, key := range []how{{end: api.EndRet}, {end: api.EndTrap}, {api.EndTrap, api.TrapDiv}, {api.EndTrap, api.TrapMem}, {end: api.EndSteps}} {
		if seen[key] < 500 {
			t.Errorf("only %d runs end so: %v", seen[key], key)
		}
	}
	if calls < 10000 || stores < 1000 || steps < 300000 {
		t.Errorf("only %d calls, %d stores, %d steps", calls, stores, steps)
	}
}

// TestExamples: those of the chapter (P4.2).
func TestExamples(t *testing.T) {
	f := function(2, block(ret(2), op(api.Div, 2, 0, 1)))
	hold(t, "both", f, api.Input{Args: []int32{7, 2}, Steps: 5}, ended(api.EndRet, 3, 2))
	hold(t, "one", f, api.Input{Args: []int32{7}, Steps: 5}, ended(api.EndTrap, api.TrapDiv, 1))
}

// TestWrong: of a function that may not be nothing is told but that (P4.2).
func TestWrong(t *testing.T) {
	full := api.Input{Args: []int32{1, 2, 3, 4}, Mem: []int32{5, 6}, Answers: []int32{7}, Steps: 100}
	for name, f := range map[string]api.Func{
		"nothing":                     {},
		"no blocks":                   function(2),
		"five parameters":             function(5, block(ret())),
		"parameters below 0":          function(-1, block(ret())),
		"an unknown operation":        function(0, block(ret(), op(19, 0))),
		"an unknown kind":             function(0, block(api.Term{Kind: 9})),
		"no kind":                     function(0, block(api.Term{})),
		"too few operands":            function(1, block(ret(), op(api.Add, 1, 0))),
		"too many operands":           function(1, block(ret(), op(api.Call, 1, 0, 0, 0, 0, 0))),
		"what was not made":           function(0, block(ret(0))),
		"made behind":                 function(0, block(ret(), load(0, 1, 0), con(1, 0))),
		"made twice":                  function(0, block(ret(0), con(0, 1), con(0, 2))),
		"on to block 0":               function(0, block(jump(0))),
		"on to no block":              function(0, block(jump(1))),
		"a block that is not reached": function(0, block(ret()), block(ret())),
		"a phi of block 0":            function(0, with(block(ret()), phi(0))),
		"a phi that lacks one":        function(1, block(branch(0, 1, 2)), block(jump(2)), with(block(ret()), phi(1, 0, 0))),
		"a phi of another block":      function(1, block(jump(1)), with(block(ret(1)), phi(1, 1, 0))),
		"fine, but for its end":       function(1, block(jump(1), store(0, 0, 0), call(1, 7, 0)), block(ret(9))),
		"too many blocks":             {Blocks: make([]api.Block, 513)},
	} {
		for _, in := range []api.Input{full, {}, {Steps: -1}} {
			if got := interp.Run(f, in); !reflect.DeepEqual(got, api.Outcome{End: api.EndWrong}) {
				t.Errorf("%s: %v", name, got)
			}
		}
	}
}

// TestParameters: they are the first arguments; 0, where one lacks (P4.2).
func TestParameters(t *testing.T) {
	for params := range api.MaxArgs + 1 {
		all := []int{0, 1, 2, 3}[:params]
		f := function(params, block(ret(9), call(9, 5, all...)))
		for count := range 7 {
			in := args([]int32{11, -12, 13, math.MinInt32, 15, 16}[:count]...)
			words := make([]int32, params)
			copy(words, in.Args)
			hold(t, "parameters", f, in, api.Outcome{End: api.EndRet, Calls: []api.Event{{Callee: 5, Args: words}}, Steps: 2})
		}
	}
	// What lies behind a row of arguments is none.
	long := []int32{1, 2, 3}
	hold(t, "a piece of a row", function(2, block(ret(1))), args(long[:1]...), ended(api.EndRet, 0, 1))
}

// TestReckoning: what is made of words by each operation (P4.2), in order of the operands.
func TestReckoning(t *testing.T) {
	odd := []int32{math.MinInt32, math.MinInt32 + 1, -65537, -33, -32, -7, -2, -1, 0, 1, 2, 3, 7, 31, 32, 33, 65535, 65536, math.MaxInt32 - 1, math.MaxInt32}
	for o := api.Add; o <= api.Div; o++ {
		f := function(2, block(ret(2), op(o, 2, 0, 1)))
		twice := function(1, block(ret(1), op(o, 1, 0, 0)))
		for _, a := range odd {
			for _, b := range odd {
				if o == api.Div && b == 0 {
					hold(t, "by 0", f, args(a, b), ended(api.EndTrap, api.TrapDiv, 1))
					continue
				}
				hold(t, "an operation", f, args(a, b), ended(api.EndRet, int32(reckon(o, int64(a), int64(b))), 2))
			}
			if o != api.Div || a != 0 {
				hold(t, "of the same", twice, args(a), ended(api.EndRet, int32(reckon(o, int64(a), int64(a))), 2))
			}
		}
	}
	for _, a := range odd {
		hold(t, "a Const", function(0, block(ret(0), con(0, a))), args(), ended(api.EndRet, a, 2))
		for _, b := range odd {
			product := uint64(int64(a) * int64(b))
			for v, want := range map[int]uint64{5: product, 4: product >> 32} {
				f := function(2, block(ret(v), mulw(5, 4, 0, 1)))
				hold(t, "Mulw", f, args(a, b), ended(api.EndRet, int32(uint32(want)), 2))
			}
		}
	}
}

// TestPlain: some that are written out, so that nothing hangs on what is reckoned (P4.2).
func TestPlain(t *testing.T) {
	for _, x := range []struct {
		op         int
		a, b, want int32
	}{
		{api.Add, math.MaxInt32, 1, math.MinInt32}, {api.Sub, 3, 5, -2}, {api.Mul, 1 << 30, 4, 0}, {api.And, 12, 10, 8}, {api.Or, 12, 10, 14}, {api.Xor, 12, 10, 6},
		{api.Shl, 1, 33, 2}, {api.Shr, -1, 31, 1}, {api.Sar, -8, 33, -4}, {api.Eq, 4, 4, 1}, {api.Eq, 4, 5, 0}, {api.Lt, -1, 0, 1}, {api.Ltu, -1, 0, 0}, {api.Div, -7, 2, -3}, {api.Div, math.MinInt32, -1, math.MinInt32},
	} {
		hold(t, "plain", function(2, block(ret(2), op(x.op, 2, 0, 1))), args(x.a, x.b), ended(api.EndRet, x.want, 2))
	}
}

// TestAddresses: an operand and Imm, together, going round (P4.2).
func TestAddresses(t *testing.T) {
	for _, x := range []struct {
		a, imm int32
		at     int
	}{
		{0, 0, 0}, {2, 0, 2}, {0, 2, 2}, {1, 1, 2}, {3, 0, -1}, {0, 3, -1}, {-1, 0, -1}, {0, -1, -1}, {-1, 1, 0}, {3, -1, 2}, {-1, -1, -1},
		{math.MaxInt32, 1, -1}, {math.MinInt32, math.MinInt32, 0}, {math.MinInt32, math.MinInt32 + 1, 1}, {math.MinInt32 + 2, math.MinInt32, 2}, {math.MinInt32 + 3, math.MinInt32, -1}, {math.MaxInt32, math.MaxInt32, -1}, {math.MaxInt32, -math.MaxInt32, 0}, {math.MinInt32, math.MaxInt32, -1},
	} {
		in := api.Input{Args: []int32{x.a, -9}, Mem: []int32{50, 60, 70}, Steps: 9}
		taken, put := function(1, block(ret(1), load(1, 0, x.imm))), function(2, block(ret(), store(0, x.imm, 1)))
		if x.at < 0 {
			want := api.Outcome{End: api.EndTrap, Val: api.TrapMem, Mem: in.Mem, Steps: 1}
			hold(t, "no word", taken, in, want)
			hold(t, "no word", put, in, want)
			continue
		}
		hold(t, "a word", taken, in, api.Outcome{End: api.EndRet, Val: in.Mem[x.at], Mem: in.Mem, Steps: 2})
		mem := slices.Clone(in.Mem)
		mem[x.at] = -9
		hold(t, "a word", put, in, api.Outcome{End: api.EndRet, Mem: mem, Steps: 2})
	}
}

// TestWords: memory has as many words as an input, but 4096 at most (P4.1, P4.2).
func TestWords(t *testing.T) {
	f := function(1, block(ret(1), store(0, 0, 0), load(1, 0, 0)))
	for _, x := range []struct {
		words int
		at    int32
		so    bool
	}{{0, 0, false}, {1, 0, true}, {1, 1, false}, {4096, 4095, true}, {4096, 4096, false}, {5000, 4095, true}, {5000, 4096, false}} {
		in := api.Input{Args: []int32{x.at}, Mem: counted(x.words), Steps: 9}
		want := api.Outcome{End: api.EndTrap, Val: api.TrapMem, Mem: counted(min(x.words, 4096)), Steps: 1}
		if x.so {
			want.End, want.Val, want.Steps = api.EndRet, x.at, 3
			want.Mem[x.at] = x.at
		}
		hold(t, "words", f, in, want)
	}
}

// TestStores: what is stored is there for what is loaded behind it, and when the run ends, however it ends (P4.2).
func TestStores(t *testing.T) {
	ins := []api.Ins{store(0, 0, 1), store(0, 1, 0), load(2, 0, 0), store(1, -2, 2), load(3, 1, -2)}
	in := api.Input{Args: []int32{1, 4}, Mem: []int32{10, 20, 30}, Steps: 100}
	mem := []int32{10, 4, 4}
	hold(t, "a Ret", function(2, block(ret(3), ins...)), in, api.Outcome{End: api.EndRet, Val: 4, Mem: mem, Steps: 6})
	hold(t, "a Trap", function(2, block(trap(7), ins...)), in, api.Outcome{End: api.EndTrap, Val: 7, Mem: mem, Steps: 6})
	behind := append(slices.Clone(ins), load(4, 1, 0), store(0, 0, 0))
	hold(t, "no word", function(2, block(ret(), behind...)), in, api.Outcome{End: api.EndTrap, Val: api.TrapMem, Mem: mem, Steps: 6})
	in.Steps = 1
	hold(t, "one step", function(2, block(ret(3), ins...)), in, api.Outcome{End: api.EndSteps, Mem: []int32{10, 4, 30}, Steps: 1})
}

// TestCalls: events in order, and answers one after the other; 0 behind the last one (P4.2).
func TestCalls(t *testing.T) {
	ins := []api.Ins{call(2, 100), call(3, -7, 1, 0), call(4, 100, 2, 3, 3, 2), call(5, math.MinInt32, 4)}
	events := func(words ...int32) []api.Event {
		return []api.Event{{Callee: 100}, {Callee: -7, Args: []int32{9, 8}}, {Callee: 100, Args: []int32{words[0], words[1], words[1], words[0]}}, {Callee: math.MinInt32, Args: []int32{words[2]}}}
	}
	for count := range 7 {
		in := args(8, 9)
		in.Answers = []int32{21, -22, 23, 24, 25, 26}[:count]
		words := make([]int32, 4)
		copy(words, in.Answers)
		hold(t, "calls", function(2, block(ret(5), ins...)), in, api.Outcome{End: api.EndRet, Val: words[3], Calls: events(words...), Steps: 5})
		hold(t, "calls, and a Trap", function(2, block(trap(-3), ins...)), in, api.Outcome{End: api.EndTrap, Val: -3, Calls: events(words...), Steps: 5})
		in.Steps = 3
		hold(t, "three calls", function(2, block(ret(5), ins...)), in, api.Outcome{End: api.EndSteps, Calls: events(words...)[:3], Steps: 3})
	}
}

// TestTerms: where each goes, and how each ends (P4.2).
func TestTerms(t *testing.T) {
	hold(t, "Ret", function(1, block(ret(0))), args(-5), ended(api.EndRet, -5, 1))
	hold(t, "Ret of nothing", function(1, block(ret())), args(-5), ended(api.EndRet, 0, 1))
	hold(t, "Ret of nothing, with Imm", function(0, block(api.Term{Kind: api.Ret, Imm: 7})), args(), ended(api.EndRet, 0, 1))
	for _, v := range []int32{0, 7, api.TrapDiv, api.TrapMem, math.MinInt32, math.MaxInt32} {
		hold(t, "Trap", function(0, block(trap(v))), args(), ended(api.EndTrap, v, 1))
	}
	hold(t, "Jump", function(0, block(jump(2)), block(trap(1)), block(jump(1))), args(), ended(api.EndTrap, 1, 3))
	for _, v := range []int32{0, 1, 2, -1, math.MinInt32, math.MaxInt32, 1 << 16} {
		want := int32(10)
		if v == 0 {
			want = 20
		}
		hold(t, "Branch", function(1, block(branch(0, 1, 2)), block(trap(10)), block(trap(20))), args(v), ended(api.EndTrap, want, 2))
		hold(t, "Branch, turned round", function(1, block(branch(0, 2, 1)), block(trap(20)), block(trap(10))), args(v), ended(api.EndTrap, want, 2))
		hold(t, "Branch to the same", function(1, block(branch(0, 1, 1)), block(trap(3))), args(v), ended(api.EndTrap, 3, 2))
	}
}

// TestSwitch: the To at a number, without its sign; else the last one (P4.2).
func TestSwitch(t *testing.T) {
	for _, count := range []int{2, 3, 4, 64, 65} {
		blocks := []api.Block{block(turn(0))}
		for n := range count {
			blocks[0].Term.To = append(blocks[0].Term.To, count-n)
			blocks = append(blocks, block(trap(int32(n+1))))
		}
		for _, v := range []int32{0, 1, 2, 3, 4, 62, 63, 64, 65, 66, -1, -2, math.MinInt32, math.MinInt32 + 1, math.MaxInt32, 1 << 16} {
			at := count - 1
			if v >= 0 && int64(v) < int64(count-1) {
				at = int(v)
			}
			hold(t, "Switch", function(1, blocks...), args(v), ended(api.EndTrap, int32(count-at), 2))
		}
	}
	again := function(1, block(turn(0, 1, 2, 1, 2)), block(trap(1)), block(trap(2)))
	for v, want := range map[int32]int32{0: 1, 1: 2, 2: 1, 3: 2, 4: 2, -1: 2} {
		hold(t, "Switch to the same", again, args(v), ended(api.EndTrap, want, 2))
	}
}

// TestPhis: what they take, by where control comes from, all at once; that is no step (P4.2).
func TestPhis(t *testing.T) {
	both := function(3, block(branch(0, 1, 2)), block(jump(3)), block(jump(3)), with(block(ret(3)), phi(3, 1, 1, 2, 2)))
	hold(t, "from one", both, args(1, 50, 60), ended(api.EndRet, 50, 3))
	hold(t, "from the other", both, args(0, 50, 60), ended(api.EndRet, 60, 3))
	late := function(3, block(branch(0, 2, 3)), with(block(ret(3)), phi(3, 2, 1, 3, 2)), block(jump(1)), block(jump(1)))
	hold(t, "from a later one", late, args(1, 50, 60), ended(api.EndRet, 50, 3))
	hold(t, "from the last one", late, args(0, 50, 60), ended(api.EndRet, 60, 3))
	hold(t, "one of two ways of a block", function(1, block(branch(0, 1, 1)), with(block(ret(1)), phi(1, 0, 0))), args(4), ended(api.EndRet, 4, 2))

	// Three go round in a circle, as often as the first parameter says.
	circle := function(4,
		block(jump(1), con(9, 1)),
		with(block(branch(7, 1, 2), op(api.Sub, 8, 7, 9)), phi(4, 0, 1, 1, 5), phi(5, 0, 2, 1, 6), phi(6, 0, 3, 1, 4), phi(7, 0, 0, 1, 8)),
		block(ret(20), call(20, 1, 4, 5, 6)))
	for turns := range int32(8) {
		words := []int32{10, 20, 30}
		rest := []int32{words[turns%3], words[(turns+1)%3], words[(turns+2)%3]}
		want := api.Outcome{End: api.EndRet, Calls: []api.Event{{Callee: 1, Args: rest}}, Steps: 2 + 2*int(turns+1) + 2}
		hold(t, "a circle", circle, args(turns, 10, 20, 30), want)
	}

	// A phi takes what another one was ahead of it, whichever stands first.
	for _, phis := range [][]api.Phi{{phi(2, 0, 0, 1, 3), phi(3, 0, 1, 1, 2)}, {phi(3, 0, 1, 1, 2), phi(2, 0, 0, 1, 3)}} {
		swap := function(2, block(jump(1)), with(block(branch(2, 1, 2)), phis...), block(ret(3)))
		hold(t, "two change places", swap, args(5, 0), ended(api.EndRet, 5, 4))
		hold(t, "at first", swap, args(0, 6), ended(api.EndRet, 6, 3))
	}
	kept := function(1, block(jump(1)), with(block(branch(2, 1, 2), con(2, 0)), phi(1, 0, 0, 1, 1)), block(ret(1)))
	hold(t, "itself", kept, args(77), ended(api.EndRet, 77, 4))
}

// TestLoop: values that are made anew each time (P4.2): the sum of 1 to a parameter.
func TestLoop(t *testing.T) {
	f := function(1,
		block(jump(1), con(1, 0), con(2, 1)),
		with(block(branch(3, 2, 3)), phi(3, 0, 0, 2, 5), phi(4, 0, 1, 2, 6)),
		block(jump(1), op(api.Sub, 5, 3, 2), op(api.Add, 6, 4, 3)),
		block(ret(4)))
	for n := range int32(50) {
		hold(t, "a sum", f, args(n), ended(api.EndRet, n*(n+1)/2, 3+4*int(n)+2))
	}
	in := args(5)
	in.Steps = math.MaxInt
	hold(t, "a sum, with all steps", f, in, ended(api.EndRet, 15, 25))
	in.Args[0] = -1
	in.Steps = 100000
	hold(t, "for long", f, in, ended(api.EndSteps, 0, 100000))
}

// TestSteps: instructions and terms are steps, also one that ends the run; there are no more than an input says (P4.2).
func TestSteps(t *testing.T) {
	for _, x := range []struct {
		name string
		f    api.Func
		want api.Outcome
	}{
		{"Ret", function(1, block(ret(1), con(1, 5), con(2, 6))), ended(api.EndRet, 5, 3)},
		{"Trap", function(1, block(jump(1), con(1, 5)), block(trap(8))), ended(api.EndTrap, 8, 3)},
		{"by 0", function(1, block(ret(), con(1, 0), op(api.Div, 2, 1, 1), con(3, 5))), ended(api.EndTrap, api.TrapDiv, 2)},
		{"no word to load", function(1, block(jump(1), con(1, -1)), block(ret(), load(2, 1, 0))), ended(api.EndTrap, api.TrapMem, 3)},
		{"no word to store to", function(1, block(ret(), con(1, -1), store(1, 0, 1), con(2, 1))), ended(api.EndTrap, api.TrapMem, 2)},
		{"phis", function(1, block(jump(1)), with(block(jump(2)), phi(1, 0, 0), phi(2, 0, 0)), with(block(ret(3)), phi(3, 1, 1))), ended(api.EndRet, 0, 3)},
	} {
		for _, steps := range []int{math.MinInt, -1, 0, 1, 2, 3, 4, math.MaxInt} {
			want := x.want
			if steps < want.Steps {
				want = ended(api.EndSteps, 0, max(steps, 0))
			}
			hold(t, x.name, x.f, api.Input{Steps: steps}, want)
		}
	}
	round := function(0, block(jump(1)), block(jump(1)))
	for _, steps := range []int{math.MinInt, -1, 0, 1, 2, 1000} {
		hold(t, "round and round", round, api.Input{Steps: steps}, ended(api.EndSteps, 0, max(steps, 0)))
	}
}

// TestEnds: an outcome has, besides how it ended, memory and events as they are then, however it ended (P4.2).
func TestEnds(t *testing.T) {
	lead := []api.Ins{con(2, 1), store(2, 0, 0), call(3, 9, 0)}
	for _, x := range []struct {
		name      string
		term      api.Term
		more      []api.Ins
		how       how
		in, steps int
	}{
		{"Ret", ret(3), nil, how{api.EndRet, 6}, 100, 4},
		{"Trap", trap(12), nil, how{api.EndTrap, 12}, 100, 4},
		{"no word", ret(3), []api.Ins{load(4, 0, 0), call(5, 8)}, how{api.EndTrap, api.TrapMem}, 100, 4},
		{"by 0", ret(3), []api.Ins{op(api.Div, 4, 0, 1), call(5, 8)}, how{api.EndTrap, api.TrapDiv}, 100, 4},
		{"steps", ret(3), nil, how{end: api.EndSteps}, 3, 3},
	} {
		f := function(2, block(x.term, append(slices.Clone(lead), x.more...)...))
		in := api.Input{Args: []int32{3, 0}, Mem: []int32{4, 5}, Answers: []int32{6}, Steps: x.in}
		hold(t, x.name, f, in, api.Outcome{End: x.how.end, Val: x.how.val, Mem: []int32{4, 3}, Calls: []api.Event{{Callee: 9, Args: []int32{3}}}, Steps: x.steps})
	}
}

// TestLimits: functions at the limits, and long runs (P4.2).
func TestLimits(t *testing.T) {
	// 512 blocks in a row, 4096 of all: each block but the last one has a phi, and adds.
	const last = api.MaxBlocks - 1
	f := api.Func{Params: 1, Blocks: make([]api.Block, api.MaxBlocks)}
	v := 0
	for b := range f.Blocks {
		if b > 0 {
			f.Blocks[b].Phis = []api.Phi{phi(b, b-1, v)}
			v = b
		}
		for range 6 {
			to := api.MaxValues - 1 - b*6 - len(f.Blocks[b].Ins)
			f.Blocks[b].Ins = append(f.Blocks[b].Ins, op(api.Add, to, v, v))
			v = to
		}
		f.Blocks[b].Term = jump(b + 1)
	}
	f.Blocks[last].Term = ret(v)
	hold(t, "a chain", f, args(1), ended(api.EndSteps, 0, 1000))
	hold(t, "a chain", f, api.Input{Args: []int32{1}, Steps: 3583}, ended(api.EndSteps, 0, 3583))
	hold(t, "a chain", f, api.Input{Args: []int32{1}, Steps: 3584}, ended(api.EndRet, 0, 3584))

	// A block with as many phis as there may be, each of which takes something from each of 511 others.
	g := api.Func{Params: 2, Blocks: make([]api.Block, api.MaxBlocks)}
	for b := range last {
		g.Blocks[b].Term = branch(1, b+1, last)
	}
	g.Blocks[last-1].Term, g.Blocks[last].Term = jump(last), ret(api.MaxValues-1)
	for n := range api.MaxIns - api.MaxBlocks {
		p := api.Phi{Dst: api.MaxValues - 1 - n}
		for from := range last {
			p.In = append(p.In, api.In{From: from, Val: from % 2})
		}
		g.Blocks[last].Phis = append(g.Blocks[last].Phis, p)
	}
	hold(t, "a ladder, gone up", g, args(7, 8), ended(api.EndRet, 7, 512))
	hold(t, "a ladder, fallen off", g, args(7, 0), ended(api.EndRet, 7, 2))
}

// TestLong: a run of many steps is done in no long time, and so is one with many phis each time.
func TestLong(t *testing.T) {
	f := function(1, block(jump(1)), block(turn(1, 1, 1), con(1, 3), op(api.Add, 2, 1, 0)))
	in := api.Input{Args: []int32{1}, Steps: 3000000}
	if got := interp.Run(f, in); !alike(got, ended(api.EndSteps, 0, 3000000)) {
		t.Error(got)
	}
	g := function(1, block(jump(1)), block(jump(1)))
	for v := range 4000 {
		g.Blocks[1].Phis = append(g.Blocks[1].Phis, phi(v+1, 0, 0, 1, max(v, 1)))
	}
	if got := interp.Run(g, api.Input{Steps: 2000}); !alike(got, ended(api.EndSteps, 0, 2000)) {
		t.Error(got)
	}
}

// TestSame: End, Val, Mem and Calls are, Steps play no part (P4.3).
func TestSame(t *testing.T) {
	made := func(turn func(o *api.Outcome)) api.Outcome {
		o := api.Outcome{End: api.EndRet, Val: 5, Mem: []int32{1, 2}, Calls: []api.Event{{Callee: 3, Args: []int32{4, 5}}, {Callee: 6}}, Steps: 7}
		turn(&o)
		return o
	}
	first := made(func(o *api.Outcome) {})
	for name, turn := range map[string]func(o *api.Outcome){
		"nothing":               func(o *api.Outcome) {},
		"other steps":           func(o *api.Outcome) { o.Steps = 8 },
		"no steps":              func(o *api.Outcome) { o.Steps = 0 },
		"a row that is not nil": func(o *api.Outcome) { o.Calls[1].Args = []int32{} },
		"a longer row's piece":  func(o *api.Outcome) { o.Mem = counted(5)[:2] },
	} {
		if other := made(turn); !interp.Same(first, other) || !interp.Same(other, first) {
			t.Errorf("%s: not the same", name)
		}
	}
	for name, turn := range map[string]func(o *api.Outcome){
		"another end":          func(o *api.Outcome) { o.End = api.EndTrap },
		"no end":               func(o *api.Outcome) { o.End = 0 },
		"another value":        func(o *api.Outcome) { o.Val = -5 },
		"another word":         func(o *api.Outcome) { o.Mem[1] = 3 },
		"words turned round":   func(o *api.Outcome) { o.Mem[0], o.Mem[1] = 2, 1 },
		"a word less":          func(o *api.Outcome) { o.Mem = o.Mem[:1] },
		"a word more":          func(o *api.Outcome) { o.Mem = append(o.Mem, 0) },
		"no memory":            func(o *api.Outcome) { o.Mem = nil },
		"another callee":       func(o *api.Outcome) { o.Calls[0].Callee = 4 },
		"another last callee":  func(o *api.Outcome) { o.Calls[1].Callee = 7 },
		"another argument":     func(o *api.Outcome) { o.Calls[0].Args[1] = 6 },
		"an argument less":     func(o *api.Outcome) { o.Calls[0].Args = o.Calls[0].Args[:1] },
		"an argument more":     func(o *api.Outcome) { o.Calls[1].Args = []int32{0} },
		"an event less":        func(o *api.Outcome) { o.Calls = o.Calls[:1] },
		"an event more":        func(o *api.Outcome) { o.Calls = append(o.Calls, api.Event{}) },
		"no events":            func(o *api.Outcome) { o.Calls = nil },
		"events turned round":  func(o *api.Outcome) { o.Calls[0], o.Calls[1] = o.Calls[1], o.Calls[0] },
		"all else, and events": func(o *api.Outcome) { *o = api.Outcome{Calls: o.Calls} },
	} {
		if other := made(turn); interp.Same(first, other) || interp.Same(other, first) {
			t.Errorf("%s: the same", name)
		}
	}
	empty := api.Outcome{Mem: []int32{}, Calls: []api.Event{}}
	if !interp.Same(api.Outcome{}, empty) || !interp.Same(empty, api.Outcome{Steps: -3}) {
		t.Error("empty rows, and none")
	}
	other := made(func(o *api.Outcome) {})
	interp.Same(first, other)
	if !reflect.DeepEqual(first, other) {
		t.Error("changed")
	}
}

// copied is a function of rows of its own.
func copied(f api.Func) api.Func {
	f.Blocks = slices.Clone(f.Blocks)
	for b := range f.Blocks {
		x := &f.Blocks[b]
		x.Phis, x.Ins = slices.Clone(x.Phis), slices.Clone(x.Ins)
		for n := range x.Phis {
			x.Phis[n].In = slices.Clone(x.Phis[n].In)
		}
		for n := range x.Ins {
			x.Ins[n].Args = slices.Clone(x.Ins[n].Args)
		}
		x.Term.Args, x.Term.To = slices.Clone(x.Term.Args), slices.Clone(x.Term.To)
	}
	return f
}

// TestKept: what is handed in stays as it was, and is not kept; what is told is the caller's, and the same each time (P4.4, R1, R3, R4).
func TestKept(t *testing.T) {
	for _, x := range sample.Runs(7, 3000) {
		f, in := copied(x.F), sample.CopiedInput(x.In)
		first, second := interp.Run(f, in), interp.Run(f, in)
		if !reflect.DeepEqual(f, x.F) || !reflect.DeepEqual(in, x.In) {
			t.Fatalf("%v, %v: changed to %v, %v", x.F, x.In, f, in)
		}
		if !reflect.DeepEqual(first, second) {
			t.Fatalf("%v, %v: %v, and then %v", f, in, first, second)
		}
		// Words of one that lie behind those of another one would show here.
		want := api.Outcome{End: first.End, Val: first.Val, Mem: slices.Clone(first.Mem), Steps: first.Steps}
		for _, e := range first.Calls {
			want.Calls = append(want.Calls, api.Event{Callee: e.Callee, Args: slices.Clone(e.Args)})
		}
		for n := range first.Calls {
			_ = append(first.Calls[n].Args, 99)
		}
		if !alike(first, want) {
			t.Fatalf("%v, %v: events share rows", f, in)
		}
		sample.ScribbleOutcome(second)
		if !alike(first, want) || !reflect.DeepEqual(in, x.In) || !reflect.DeepEqual(f, x.F) {
			t.Fatalf("%v, %v: an answer shares something", f, in)
		}
		sample.ScribbleInput(in)
		clear(f.Blocks)
		if !alike(first, want) || !alike(interp.Run(x.F, x.In), want) {
			t.Fatalf("%v, %v: something was kept", x.F, x.In)
		}
	}
}

// TestMore: with more steps a run goes on as it did with fewer (P4.5).
func TestMore(t *testing.T) {
	same := func(x, y api.Event) bool { return x.Callee == y.Callee && slices.Equal(x.Args, y.Args) }
	for _, x := range sample.Runs(19, 2000) {
		x.In.Steps = -1
		before := interp.Run(x.F, x.In)
		for steps := range 60 {
			x.In.Steps = steps
			got := interp.Run(x.F, x.In)
			if steps == 0 && !alike(got, before) {
				t.Fatalf("%v: %v, not %v", x, got, before)
			}
			if before.End != api.EndSteps && !alike(got, before) {
				t.Fatalf("%v: ended, %v, and with more steps %v", x, before, got)
			}
			if got.End == api.EndSteps && (got.Steps != steps || got.Val != 0) || got.Steps > steps || got.Steps < before.Steps {
				t.Fatalf("%v: %v", x, got)
			}
			if n := len(before.Calls); len(got.Calls) < n || len(got.Calls) > n+1 || !slices.EqualFunc(got.Calls[:n], before.Calls, same) {
				t.Fatalf("%v: calls %v, and then %v", x, before.Calls, got.Calls)
			}
			if differ(got.Mem, before.Mem) > 1 {
				t.Fatalf("%v: memory %v, and then %v", x, before.Mem, got.Mem)
			}
			before = got
		}
	}
}

// differ tells in how many words two rows differ; many, if they are not as long.
func differ(a, b []int32) int {
	n := 0
	for i := range a {
		if i >= len(b) || a[i] != b[i] {
			n++
		}
	}
	return n + max(0, len(b)-len(a))
}

// TestStays: memory that is not stored to stays (P4.5).
func TestStays(t *testing.T) {
	stores, stays := 0, 0
	for _, x := range sample.Runs(29, 5000) {
		got := interp.Run(x.F, x.In)
		_, stored := reckoned(x.F, x.In)
		stores += len(stored)
		if len(got.Mem) != len(x.In.Mem) {
			t.Fatalf("%v: %d words, not %d", x, len(got.Mem), len(x.In.Mem))
		}
		for at, v := range got.Mem {
			if stored[at] {
				continue
			}
			stays++
			if v != x.In.Mem[at] {
				t.Fatalf("%v: the word at %d is %d", x, at, v)
			}
		}
	}
	if stores < 200 || stays < 10000 {
		t.Errorf("only %d stores, %d words that stay", stores, stays)
	}
}
