package split_test

import (
	"reflect"
	"slices"
	"testing"

	"jacquard/api"
	"jacquard/check"
	"jacquard/graph"
	"jacquard/interp"
	"jacquard/sample"
	"jacquard/split"
)

// Short forms for what is written out.
func ret(l ...int) api.Term          { return api.Term{Kind: api.Ret, Args: l} }
func jump(to int) api.Term           { return api.Term{Kind: api.Jump, To: []int{to}} }
func branch(v, a, b int) api.Term    { return api.Term{Kind: api.Branch, Args: []int{v}, To: []int{a, b}} }
func turn(v int, to ...int) api.Term { return api.Term{Kind: api.Switch, Args: []int{v}, To: to} }
func con(dst int, imm int32) api.Ins { return api.Ins{Op: api.Const, Dst: dst, Imm: imm} }
func add(dst, a, b int) api.Ins      { return api.Ins{Op: api.Add, Dst: dst, Args: []int{a, b}} }
func block(t api.Term, l ...api.Ins) api.Block {
	return api.Block{Ins: l, Term: t}
}
func function(params int, l ...api.Block) api.Func {
	return api.Func{Params: params, Blocks: l}
}

// phi is one of operands by where control comes from.
func phi(dst int, l ...int) api.Phi { return sample.Phi(dst, l...) }

// with is a block with phis.
func with(b api.Block, l ...api.Phi) api.Block {
	b.Phis = l
	return b
}

// alike tells whether two functions are the same in all, be rows without items nil or empty.
func alike(a, b api.Func) bool {
	return reflect.DeepEqual(sample.Copied(a), sample.Copied(b))
}

// goers are the blocks whose term names one, rising.
func goers(f api.Func, to int) []int {
	var l []int
	for b := range f.Blocks {
		if slices.Contains(f.Blocks[b].Term.To, to) {
			l = append(l, b)
		}
	}
	return l
}

// critical are a function's critical edges, by the document's words.
func critical(f api.Func) [][2]int {
	var l [][2]int
	for from := range f.Blocks {
		several := false
		for _, to := range f.Blocks[from].Term.To {
			several = several || to != f.Blocks[from].Term.To[0]
		}
		for to := range f.Blocks {
			if several && slices.Contains(f.Blocks[from].Term.To, to) && len(goers(f, to)) > 1 {
				l = append(l, [2]int{from, to})
			}
		}
	}
	return l
}

// second splits a function that may be by the document's words, one edge after the other.
func second(f api.Func) api.Func {
	edges := critical(f)
	f = sample.Copied(f)
	for _, e := range edges {
		from, to, its := e[0], e[1], len(f.Blocks)
		f.Blocks = append(f.Blocks, block(jump(to)))
		for n, x := range f.Blocks[from].Term.To {
			if x == to {
				f.Blocks[from].Term.To[n] = its
			}
		}
		for _, p := range f.Blocks[to].Phis {
			at := slices.IndexFunc(p.In, func(in api.In) bool { return in.From == from })
			in := api.In{From: its, Val: p.In[at].Val}
			// Its block is the last one by now: so it is behind all others.
			copy(p.In[at:], p.In[at+1:])
			p.In[len(p.In)-1] = in
		}
	}
	return f
}

// hold holds what is split against what is written out, and against what is split a second time.
func hold(t *testing.T, name string, f, want api.Func) {
	t.Helper()
	if !check.Right(f) {
		t.Errorf("%s: it may not be", name)
	}
	if got, e := split.Func(f); e != api.OK || !alike(got, want) {
		t.Errorf("%s: %v %v, not %v", name, got, e, want)
	}
	if got := second(f); !alike(got, want) {
		t.Errorf("%s: by the words %v, not %v", name, got, want)
	}
}

// TestSecond: functions of all kinds are split as the document's words say (P5.2).
func TestSecond(t *testing.T) {
	edges, moved, plain := 0, 0, 0
	for _, x := range sample.Runs(5, 20000) {
		want := second(x.F)
		got, e := split.Func(x.F)
		if e != api.OK || !alike(got, want) {
			t.Fatalf("%v: %v %v, not %v", x.F, got, e, want)
		}
		more := len(want.Blocks) - len(x.F.Blocks)
		edges += more
		if more == 0 {
			plain++
		}
		for b := range x.F.Blocks {
			for n, p := range x.F.Blocks[b].Phis {
				if !reflect.DeepEqual(p, want.Blocks[b].Phis[n]) {
					moved++
				}
			}
		}
	}
	if edges < 20000 || moved < 10000 || plain < 2000 {
		t.Errorf("only %d edges, %d phis that changed, %d functions without", edges, moved, plain)
	}
}

// TestSplit: what is written out (P5.2).
func TestSplit(t *testing.T) {
	f := function(2, block(branch(0, 1, 2)), block(jump(2)), with(block(ret(2)), phi(2, 0, 0, 1, 1)))
	hold(t, "the example", f,
		function(2, block(branch(0, 1, 3)), block(jump(2)), with(block(ret(2)), phi(2, 1, 1, 3, 0)), block(jump(2))))

	f = function(1, block(ret(0)))
	hold(t, "one block", f, f)

	f = function(1, block(branch(0, 1, 1)), block(ret()))
	hold(t, "twice to the same one is one edge", f, f)

	f = function(1, block(branch(0, 1, 2)), block(jump(3)), block(jump(3)), with(block(ret(1)), phi(1, 1, 0, 2, 0)))
	hold(t, "a diamond", f, f)

	f = function(1, block(jump(1)), with(block(branch(0, 1, 2)), phi(1, 0, 0, 1, 1)), block(ret(1)))
	hold(t, "a loop of one block", f,
		function(1, block(jump(1)), with(block(branch(0, 3, 2)), phi(1, 0, 0, 3, 1)), block(ret(1)), block(jump(1))))

	f = function(1,
		block(turn(0, 2, 1, 2, 3, 1, 2)),
		with(block(jump(3), con(2, 7)), phi(1, 0, 0, 2, 0)),
		with(block(branch(0, 1, 3)), phi(4, 0, 0, 3, 0)),
		with(block(branch(0, 2, 4)), phi(5, 0, 0, 1, 2, 2, 4), phi(6, 0, 0, 1, 1, 2, 0)),
		block(ret(6)))
	hold(t, "switches, each place of them", f, function(1,
		block(turn(0, 6, 5, 6, 7, 5, 6)),
		with(block(jump(3), con(2, 7)), phi(1, 5, 0, 8, 0)),
		with(block(branch(0, 8, 9)), phi(4, 6, 0, 10, 0)),
		with(block(branch(0, 10, 4)), phi(5, 1, 2, 7, 0, 9, 4), phi(6, 1, 1, 7, 0, 9, 0)),
		block(ret(6)),
		block(jump(1)), block(jump(2)), block(jump(3)), block(jump(1)), block(jump(3)), block(jump(2))))
}

// TestFields: fields without a meaning are as they were, too (P5.2).
func TestFields(t *testing.T) {
	f := function(1, block(branch(0, 1, 2), api.Ins{Op: api.Add, Dst: 1, Two: 77, Args: []int{0, 0}, Imm: 5}), block(jump(2)), block(ret(1)))
	f.Blocks[0].Term.Imm, f.Blocks[1].Term.Imm, f.Blocks[2].Term.Imm = 3, 4, 5
	want := sample.Copied(f)
	want.Blocks[0].Term.To[1] = 3
	want.Blocks = append(want.Blocks, block(jump(2)))
	hold(t, "fields", f, want)
}

// deny holds that a function is not split, for an error.
func deny(t *testing.T, name string, f api.Func, want api.Errno) {
	t.Helper()
	if got, e := split.Func(f); e != want || !reflect.DeepEqual(got, api.Func{}) {
		t.Errorf("%s: %v %v, not %v", name, got, e, want)
	}
}

// TestWrong: a function that may not be has the checker's error (P5.1).
func TestWrong(t *testing.T) {
	for _, x := range []struct {
		f    api.Func
		want api.Errno
	}{
		{api.Func{}, api.ErrBlock},
		{function(5, block(ret())), api.ErrArg},
		{function(-1, block(ret())), api.ErrArg},
		{function(0, make([]api.Block, 513)...), api.ErrMany},
		{function(0, block(ret(), make([]api.Ins, 4096)...)), api.ErrMany},
		{function(0, block(ret(), api.Ins{Op: 19})), api.ErrOp},
		{function(0, block(api.Term{Kind: 6})), api.ErrOp},
		{function(0, block(ret(), con(8192, 0))), api.ErrValue},
		{function(0, block(ret(), con(1, 0), con(1, 0))), api.ErrTwice},
		{function(0, block(ret(1))), api.ErrUse},
		{function(0, block(jump(1))), api.ErrBlock},
		{function(0, block(jump(-1))), api.ErrBlock},
		{function(1, block(branch(0, 0, 1)), block(ret())), api.ErrBlock},
		{function(0, block(ret()), block(ret())), api.ErrReach},
		{function(1, block(branch(0, 1, 2)), block(jump(2)), with(block(ret(2)), phi(2, 0, 0))), api.ErrPhi},
		{function(1, block(branch(0, 1, 2)), block(jump(2)), with(block(ret(2)), phi(2, 1, 0, 0, 0))), api.ErrPhi},
		{function(1, block(branch(0, 1, 2)), block(jump(2)), with(block(ret(2)), phi(2, 0, 0, 1, 3))), api.ErrUse},
	} {
		deny(t, "wrong", x.f, x.want)
	}
}

// TestSpoilt: functions of all kinds with something wrong have the checker's error (P5.1).
func TestSpoilt(t *testing.T) {
	next, wrong := sample.Numbers(11), 0
	for _, x := range sample.Runs(13, 4000) {
		f := sample.Copied(x.F)
		b := &f.Blocks[next(len(f.Blocks))]
		switch next(4) {
		case 0:
			b.Term.Kind = next(7)
		case 1:
			b.Term.Args = append(b.Term.Args, next(20))
		case 2:
			b.Ins = append(b.Ins, api.Ins{Op: next(20), Dst: next(20), Args: []int{next(20)}})
		default:
			b.Phis = append(b.Phis, phi(next(20), next(3), next(20)))
		}
		if e, _, _ := check.Func(f); e != api.OK {
			wrong++
			deny(t, "spoilt", f, e)
		}
	}
	if wrong < 2000 {
		t.Errorf("only %d that may not be", wrong)
	}
}

// rungs is a function of n blocks of which as many as there are branches have a critical edge to the last one, with all phis and instructions that are asked for.
func rungs(n, branches, phis, ins int) api.Func {
	f := api.Func{Params: 1, Blocks: make([]api.Block, n)}
	for b := range n - 1 {
		f.Blocks[b].Term = jump(b + 1)
		if b < branches {
			f.Blocks[b].Term = branch(0, b+1, n-1)
		}
	}
	last := &f.Blocks[n-1]
	last.Term = ret(0)
	for v := range phis {
		p := api.Phi{Dst: 1 + v}
		for _, from := range goers(f, n-1) {
			p.In = append(p.In, api.In{From: from, Val: 0})
		}
		last.Phis = append(last.Phis, p)
	}
	for v := range ins {
		f.Blocks[v%n].Ins = append(f.Blocks[v%n].Ins, con(1+phis+v, 0))
	}
	return f
}

// TestMany: as many blocks, and as many of all, as there may be, and one more (P5.1).
func TestMany(t *testing.T) {
	for _, x := range []struct {
		name                      string
		blocks, edges, phis, more int
		want                      api.Errno
	}{
		{"512 blocks", 400, 112, 2, 3, api.OK},
		{"513 blocks", 400, 113, 2, 3, api.ErrMany},
		{"513 blocks with one edge", 512, 1, 0, 0, api.ErrMany},
		{"512 blocks without an edge", 512, 0, 1, 0, api.OK},
		{"4096 of all, by instructions", 300, 200, 7, 3589, api.OK},
		{"4097 of all, by instructions", 300, 200, 7, 3590, api.ErrMany},
		{"4096 of all, by phis", 200, 100, 3700, 96, api.OK},
		{"4097 of all, by phis", 200, 100, 3701, 96, api.ErrMany},
		{"4096 of all, without an edge", 10, 0, 1, 4085, api.OK},
		{"4096 of all, and an edge", 10, 1, 1, 4085, api.ErrMany},
	} {
		f := rungs(x.blocks, x.edges, x.phis, x.more)
		if !check.Right(f) || len(critical(f)) != x.edges {
			t.Errorf("%s: %d edges", x.name, len(critical(f)))
		}
		if x.want != api.OK {
			deny(t, x.name, f, x.want)
		} else {
			hold(t, x.name, f, second(f))
		}
	}
}

// TestFollows: what is split may be, has no critical edges, and is not split again (P5.3).
func TestFollows(t *testing.T) {
	for _, x := range sample.Runs(23, 10000) {
		got, _ := split.Func(x.F)
		if !check.Right(got) || len(critical(got)) > 0 {
			t.Fatalf("%v: %v", x.F, got)
		}
		if again, e := split.Func(got); e != api.OK || !reflect.DeepEqual(again, got) {
			t.Fatalf("%v: %v, and then %v %v", x.F, got, again, e)
		}
	}
}

// TestDominators: who dominates whom among the blocks of the function is as it was (P5.3).
func TestDominators(t *testing.T) {
	for _, x := range sample.Runs(31, 5000) {
		got, _ := split.Func(x.F)
		was, is := graph.Idom(graph.Of(x.F)), graph.Idom(graph.Of(got))
		for a := range x.F.Blocks {
			for b := range x.F.Blocks {
				if graph.Dominates(was, a, b) != graph.Dominates(is, a, b) {
					t.Fatalf("%v: %v: %d and %d", x.F, got, a, b)
				}
			}
		}
	}
}

// marked is a function that calls at the beginning of each block: who is called tells the block.
func marked(f api.Func) api.Func {
	f = sample.Copied(f)
	top := check.Top(f)
	for b := range f.Blocks {
		own := &f.Blocks[b]
		own.Ins = slices.Insert(own.Ins, 0, api.Ins{Op: api.Call, Dst: top + b, Imm: int32(1<<20 + b)})
	}
	return f
}

// gone are the split edges that a run of a marked function went over.
func gone(f api.Func, out api.Outcome) int {
	edges, count, at := critical(f), 0, 0
	for n, e := range out.Calls {
		to := int(e.Callee) - 1<<20
		if n == 0 || to < 0 || to >= len(f.Blocks) {
			continue
		}
		if slices.Contains(edges, [2]int{at, to}) {
			count++
		}
		at = to
	}
	return count
}

// TestRuns: what is split does what the function did, by a step more for each split edge that is gone over (P5.3).
func TestRuns(t *testing.T) {
	ends, all := 0, 0
	for _, x := range sample.Runs(41, 10000) {
		f := marked(x.F)
		got, _ := split.Func(f)
		was := interp.Run(f, x.In)
		more := gone(f, was)
		in := x.In
		in.Steps = max(in.Steps, 0) + more
		is := interp.Run(got, in)
		if !interp.Same(was, is) || is.Steps != was.Steps+more {
			t.Fatalf("%v, %v: %v, and by %d more %v", f, x.In, was, more, is)
		}
		all += more
		if was.End != api.EndSteps {
			ends++
		}
	}
	if ends < 3000 || all < 5000 {
		t.Errorf("only %d runs end, over %d edges", ends, all)
	}
}

// behind lays something behind each row of a function, and tells whether the function stayed as it was.
func behind(f api.Func) bool {
	was := sample.Copied(f)
	for _, x := range f.Blocks {
		for _, p := range x.Phis {
			_ = append(p.In, api.In{From: 98, Val: 98})
		}
		for _, i := range x.Ins {
			_ = append(i.Args, 98)
		}
		_, _ = append(x.Term.Args, 98), append(x.Term.To, 98)
		_, _ = append(x.Phis, phi(98)), append(x.Ins, con(98, 98))
	}
	return alike(was, f)
}

// TestKept: what is handed in stays as it was, and is not kept; what is told is the caller's, and the same each time (R1, R3, R4).
func TestKept(t *testing.T) {
	for _, x := range sample.Runs(47, 3000) {
		f := sample.Copied(x.F)
		first, _ := split.Func(f)
		second, _ := split.Func(f)
		if !alike(f, x.F) {
			t.Fatalf("%v: changed to %v", x.F, f)
		}
		if !reflect.DeepEqual(first, second) || !behind(first) {
			t.Fatalf("%v: %v, and then %v", f, first, second)
		}
		want := sample.Copied(first)
		sample.Scribble(second)
		if !alike(first, want) || !alike(f, x.F) {
			t.Fatalf("%v: an answer shares something", x.F)
		}
		sample.Scribble(f)
		if again, _ := split.Func(x.F); !alike(first, want) || !alike(again, want) {
			t.Fatalf("%v: something was kept", x.F)
		}
	}
}
