package check_test

import (
	"math"
	"reflect"
	"slices"
	"testing"

	"jacquard/api"
	"jacquard/check"
)

// fault is what Func answers.
type fault struct {
	e            api.Errno
	block, place int
}

// told is what the program tells of a function.
func told(f api.Func) fault {
	e, block, place := check.Func(f)
	return fault{e, block, place}
}

// thing is a phi, an instruction or a term, as the document's words have it.
type thing struct {
	block, place int
	phi          *api.Phi
	ins          *api.Ins
	term         *api.Term
}

// things are all of a function, in order.
func things(f api.Func) []thing {
	var l []thing
	for b := range f.Blocks {
		for n := range f.Blocks[b].Phis {
			l = append(l, thing{block: b, place: -n - 1, phi: &f.Blocks[b].Phis[n]})
		}
		for n := range f.Blocks[b].Ins {
			l = append(l, thing{block: b, place: n, ins: &f.Blocks[b].Ins[n]})
		}
		l = append(l, thing{block: b, place: len(f.Blocks[b].Ins), term: &f.Blocks[b].Term})
	}
	return l
}

// makes is what a thing makes.
func (x thing) makes() []int {
	switch {
	case x.phi != nil:
		return []int{x.phi.Dst}
	case x.term != nil || x.ins.Op == api.Store:
		return nil
	case x.ins.Op == api.Mulw:
		return []int{x.ins.Dst, x.ins.Two}
	}
	return []int{x.ins.Dst}
}

// takes is what a thing's operands are.
func (x thing) takes() []int {
	switch {
	case x.ins != nil:
		return x.ins.Args
	case x.term != nil:
		return x.term.Args
	}
	var l []int
	for _, in := range x.phi.In {
		l = append(l, in.Val)
	}
	return l
}

// shaped tells whether a thing has the operands, and the To's, that it must.
func (x thing) shaped() bool {
	if x.phi != nil {
		return true
	}
	if x.ins != nil {
		// By operations, from 0 on: how many operands it has at least, and at most.
		counts := [][2]int{{1, 0}, {0, 0}, {2, 2}, {2, 2}, {2, 2}, {2, 2}, {2, 2}, {2, 2}, {2, 2}, {2, 2}, {2, 2}, {2, 2}, {2, 2}, {2, 2}, {2, 2}, {1, 1}, {2, 2}, {0, 4}, {2, 2}}
		if x.ins.Op < 0 || x.ins.Op >= len(counts) {
			return false
		}
		return counts[x.ins.Op][0] <= len(x.ins.Args) && len(x.ins.Args) <= counts[x.ins.Op][1]
	}
	// By kinds, from 0 on: how many operands at least, and at most, and how many To's.
	counts := [][4]int{{1, 0, 1, 0}, {0, 0, 1, 1}, {1, 1, 2, 2}, {1, 1, 2, 65}, {0, 1, 0, 0}, {0, 0, 0, 0}}
	if x.term.Kind < 0 || x.term.Kind >= len(counts) {
		return false
	}
	c := counts[x.term.Kind]
	return c[0] <= len(x.term.Args) && len(x.term.Args) <= c[1] && c[2] <= len(x.term.To) && len(x.term.To) <= c[3]
}

// reached tells whether control comes from block 0 to a block without going through another one (none, if it is below 0).
func reached(f api.Func, block, without int) bool {
	seen := make([]bool, len(f.Blocks))
	seen[0] = true
	for todo := []int{0}; len(todo) > 0; todo = todo[1:] {
		if todo[0] == block {
			return true
		}
		if todo[0] == without {
			continue
		}
		for _, to := range f.Blocks[todo[0]].Term.To {
			if !seen[to] {
				seen[to] = true
				todo = append(todo, to)
			}
		}
	}
	return false
}

// fine tells whether an operand may be taken at a place of a block.
func fine(f api.Func, v, block, place int) bool {
	if v >= 0 && v < f.Params {
		return true
	}
	for _, x := range things(f) {
		if !slices.Contains(x.makes(), v) {
			continue
		}
		if x.block == block {
			return x.place < place
		}
		return !reached(f, block, x.block)
	}
	return false
}

// preds are the predecessors of a block.
func preds(f api.Func, block int) []int {
	var l []int
	for b := range f.Blocks {
		if slices.Contains(f.Blocks[b].Term.To, block) {
			l = append(l, b)
		}
	}
	return l
}

// second reckons by the document's words what is wrong first, point by point.
func second(f api.Func) fault {
	if f.Params < 0 || f.Params > 4 {
		return fault{e: api.ErrArg}
	}
	if len(f.Blocks) < 1 {
		return fault{e: api.ErrBlock}
	}
	all := things(f)
	if len(f.Blocks) > 512 || len(all) > 4096 {
		return fault{e: api.ErrMany}
	}
	if w := secondShapes(f, all); w.e != api.OK {
		return w
	}
	for b := range f.Blocks {
		if !reached(f, b, -1) {
			return fault{api.ErrReach, b, 0}
		}
	}
	return secondUses(f, all)
}

// secondShapes is point 2.
func secondShapes(f api.Func, all []thing) fault {
	made := map[int]bool{}
	for _, x := range all {
		if !x.shaped() {
			return fault{api.ErrOp, x.block, x.place}
		}
		l := x.makes()
		if slices.ContainsFunc(l, func(v int) bool { return v < f.Params || v > 8191 }) {
			return fault{api.ErrValue, x.block, x.place}
		}
		if slices.ContainsFunc(l, func(v int) bool { return made[v] }) || len(l) == 2 && l[0] == l[1] {
			return fault{api.ErrTwice, x.block, x.place}
		}
		for _, v := range l {
			made[v] = true
		}
		if x.term != nil && slices.ContainsFunc(x.term.To, func(b int) bool { return b <= 0 || b >= len(f.Blocks) }) {
			return fault{api.ErrBlock, x.block, x.place}
		}
	}
	return fault{}
}

// secondUses is point 4.
func secondUses(f api.Func, all []thing) fault {
	for _, x := range all {
		if x.phi == nil {
			if slices.ContainsFunc(x.takes(), func(v int) bool { return !fine(f, v, x.block, x.place) }) {
				return fault{api.ErrUse, x.block, x.place}
			}
			continue
		}
		var from []int
		for _, in := range x.phi.In {
			from = append(from, in.From)
		}
		if x.block == 0 || !slices.Equal(from, preds(f, x.block)) {
			return fault{api.ErrPhi, x.block, x.place}
		}
		for _, in := range x.phi.In {
			if !fine(f, in.Val, in.From, len(f.Blocks[in.From].Ins)) {
				return fault{api.ErrUse, x.block, x.place}
			}
		}
	}
	return fault{}
}

// numbers tell numbers that are all over the place, the same each time.
func numbers(seed uint32) func(below int) int {
	return func(below int) int {
		seed = seed*1664525 + 1013904223
		return int(seed>>8) % below
	}
}

// terms gives each of n blocks a term: one that goes on to the next or further, and now and then back.
func terms(n int, next func(int) int) []api.Block {
	blocks := make([]api.Block, n)
	for b := range blocks {
		to := func() int { return 1 + next(n-1) }
		t := &blocks[b].Term
		switch kind := next(8); {
		case b == n-1 || kind == 0:
			t.Kind = api.Ret + next(2)
		case kind < 4:
			t.Kind, t.To = api.Jump, []int{b + 1}
		case kind < 7:
			t.Kind, t.To = api.Branch, []int{b + 1, to()}
		default:
			t.Kind, t.To = api.Switch, []int{to(), b + 1, to()}
		}
		if t.Kind == api.Branch || t.Kind == api.Switch || t.Kind == api.Ret && next(2) == 0 {
			t.Args = []int{0}
		}
	}
	return blocks
}

// grown is a function that most often may be: its blocks are reached but for what stands behind a Ret or a Trap, and operands are values from anywhere.
func grown(next func(int) int) api.Func {
	f := api.Func{Params: next(5), Blocks: terms(1+next(7), next)}
	var made []int
	for v := range f.Params {
		made = append(made, v)
	}
	top := f.Params
	fresh := func() int {
		made, top = append(made, top), top+1
		return top - 1
	}
	pick := func() int {
		if next(40) == 0 || len(made) == 0 {
			return next(20)
		}
		// Values that were made a while ago stand on more ways.
		return made[min(next(len(made)), next(len(made)))]
	}
	for b := range f.Blocks {
		block := &f.Blocks[b]
		for range next(3) {
			if l := preds(f, b); b > 0 {
				p := api.Phi{Dst: fresh()}
				for _, from := range l {
					p.In = append(p.In, api.In{From: from, Val: pick()})
				}
				block.Phis = append(block.Phis, p)
			}
		}
		for range next(5) {
			block.Ins = append(block.Ins, instruction(next, pick, fresh))
		}
		for i := range block.Term.Args {
			block.Term.Args[i] = pick()
		}
	}
	return f
}

// instruction is one of any operation.
func instruction(next func(int) int, pick, fresh func() int) api.Ins {
	i := api.Ins{Op: 1 + next(18)}
	if next(3) == 0 {
		i.Op = api.Const
	}
	count := 2
	switch i.Op {
	case api.Const:
		count = 0
	case api.Load:
		count = 1
	case api.Call:
		count = next(5)
	}
	for range count {
		i.Args = append(i.Args, pick())
	}
	if i.Op != api.Store {
		i.Dst = fresh()
	}
	if i.Op == api.Mulw {
		i.Two = fresh()
	}
	return i
}

// spoil changes one thing of a function, to what it may or may not be.
func spoil(f *api.Func, next func(int) int) {
	odd := []int{-1, 0, 1, 2, 3, 4, 5, 6, 18, 19, 8191, 8192, math.MinInt, math.MaxInt, 1 << 32}
	pick := func() int { return odd[next(len(odd))] }
	if next(20) == 0 || len(f.Blocks) == 0 {
		f.Params = pick()
		return
	}
	all := things(*f)
	x := all[next(len(all))]
	row := func(l []int) []int {
		if len(l) > 0 && next(3) > 0 {
			l[next(len(l))] = pick()
			return l
		}
		if len(l) > 0 && next(2) == 0 {
			return l[1:]
		}
		return append(l, next(8))
	}
	switch {
	case x.phi != nil && next(3) == 0:
		x.phi.Dst = pick()
	case x.phi != nil && len(x.phi.In) > 1 && next(3) == 0:
		x.phi.In[0], x.phi.In[1] = x.phi.In[1], x.phi.In[0]
	case x.phi != nil && len(x.phi.In) > 0 && next(2) == 0:
		x.phi.In[next(len(x.phi.In))].From = next(8)
	case x.phi != nil:
		x.phi.In = append(x.phi.In, api.In{From: pick(), Val: pick()})
	case x.ins != nil && next(5) == 0:
		x.ins.Op = pick()
	case x.ins != nil && next(3) == 0:
		x.ins.Dst = pick()
	case x.ins != nil && next(3) == 0:
		x.ins.Two = pick()
	case x.ins != nil:
		x.ins.Args = row(x.ins.Args)
	case next(8) == 0:
		x.term.Kind = pick()
	case next(2) == 0:
		x.term.To = row(x.term.To)
	case next(6) == 0:
		f.Blocks[x.block].Phis = append(f.Blocks[x.block].Phis, api.Phi{Dst: next(30)})
	default:
		x.term.Args = row(x.term.Args)
	}
}

// samples are functions of all kinds, many of which may be.
func samples(seed uint32, count int) []api.Func {
	next := numbers(seed)
	var l []api.Func
	for i := range count {
		f := grown(next)
		for range i % 3 {
			spoil(&f, next)
		}
		l = append(l, f)
	}
	return l
}

// TestSecond: what is wrong first, by the document's words, of functions of all kinds (P3.1).
func TestSecond(t *testing.T) {
	seen := map[api.Errno]int{}
	for _, f := range samples(3, 30000) {
		want := second(f)
		seen[want.e]++
		if got := told(f); got != want {
			t.Fatalf("%v: %v, not %v", f, got, want)
		}
		if check.Right(f) != (want.e == api.OK) {
			t.Fatalf("%v: Right is %v", f, check.Right(f))
		}
	}
	for _, e := range []api.Errno{api.OK, api.ErrArg, api.ErrOp, api.ErrValue, api.ErrTwice, api.ErrUse, api.ErrBlock, api.ErrReach, api.ErrPhi} {
		if seen[e] < 100 {
			t.Errorf("only %d samples with error %d", seen[e], e)
		}
	}
}

// Short forms for what is written out.
func ret(l ...int) api.Term           { return api.Term{Kind: api.Ret, Args: l} }
func jump(to int) api.Term            { return api.Term{Kind: api.Jump, To: []int{to}} }
func branch(v, a, b int) api.Term     { return api.Term{Kind: api.Branch, Args: []int{v}, To: []int{a, b}} }
func con(dst int) api.Ins             { return api.Ins{Op: api.Const, Dst: dst, Imm: 5} }
func op(o, dst int, l ...int) api.Ins { return api.Ins{Op: o, Dst: dst, Args: l} }
func mulw(dst, two, a, b int) api.Ins {
	return api.Ins{Op: api.Mulw, Dst: dst, Two: two, Args: []int{a, b}}
}
func block(t api.Term, l ...api.Ins) api.Block { return api.Block{Ins: l, Term: t} }
func function(params int, l ...api.Block) api.Func {
	return api.Func{Params: params, Blocks: l}
}

// phi is one of operands by where control comes from.
func phi(dst int, l ...int) api.Phi {
	p := api.Phi{Dst: dst}
	for i := 0; i < len(l); i += 2 {
		p.In = append(p.In, api.In{From: l[i], Val: l[i+1]})
	}
	return p
}

// with is a block with phis.
func with(b api.Block, l ...api.Phi) api.Block {
	b.Phis = l
	return b
}

// repeated is a row of the same number.
func repeated(v, count int) []int {
	return slices.Repeat([]int{v}, count)
}

// hold holds what is told of a function against what is written out, and against what is reckoned a second time.
func hold(t *testing.T, name string, f api.Func, want fault) {
	t.Helper()
	if got := told(f); got != want {
		t.Errorf("%s: %v, not %v", name, got, want)
	}
	if got := second(f); got != want {
		t.Errorf("%s: by the words %v, not %v", name, got, want)
	}
	if check.Right(f) != (want.e == api.OK) {
		t.Errorf("%s: Right is %v", name, check.Right(f))
	}
}

// TestCounts: parameters, blocks, and how many of all there are (P3.1, point 1).
func TestCounts(t *testing.T) {
	one := block(ret())
	for _, params := range []int{-1, 5, math.MinInt, math.MaxInt} {
		hold(t, "parameters", function(params, one), fault{e: api.ErrArg})
		hold(t, "parameters, and no blocks", function(params), fault{e: api.ErrArg})
	}
	for params := range 5 {
		hold(t, "parameters", function(params, one), fault{})
		hold(t, "no blocks", function(params), fault{e: api.ErrBlock})
	}
	chain := func(blocks int) api.Func {
		f := api.Func{}
		for b := range blocks - 1 {
			f.Blocks = append(f.Blocks, block(jump(b+1)))
		}
		f.Blocks = append(f.Blocks, one)
		return f
	}
	hold(t, "512 blocks", chain(512), fault{})
	hold(t, "513 blocks", chain(513), fault{e: api.ErrMany})
	// What else is wrong comes later.
	many := chain(513)
	many.Blocks[0].Term.Kind = 77
	hold(t, "513 blocks, and a wrong term", many, fault{e: api.ErrMany})
	filled := func(phis, ins int) api.Func {
		f := function(0, block(jump(1)), block(ret()))
		for n := range phis {
			f.Blocks[1].Phis = append(f.Blocks[1].Phis, phi(n, 0, 8000))
		}
		for n := range ins {
			f.Blocks[0].Ins = append(f.Blocks[0].Ins, con(8000-n))
		}
		return f
	}
	hold(t, "4096 in all", filled(2000, 2094), fault{})
	hold(t, "4097 in all, by instructions", filled(2000, 2095), fault{e: api.ErrMany})
	hold(t, "4097 in all, by phis", filled(2001, 2094), fault{e: api.ErrMany})
	hold(t, "4096 in all, one wrong", filled(1, 4093-3), fault{})
}

// TestShapes: operations and kinds, and how many operands and To's they have (P3.1, point 2).
func TestShapes(t *testing.T) {
	for o := -2; o <= 22; o++ {
		for count := range 7 {
			i := api.Ins{Op: o, Dst: 1, Two: 2, Args: repeated(0, count)}
			want := fault{api.ErrOp, 0, 0}
			if (thing{ins: &i}).shaped() {
				want = fault{}
			}
			hold(t, "an operation", function(1, block(ret(), i)), want)
		}
	}
	for kind := -2; kind <= 8; kind++ {
		for count := range 4 {
			for _, to := range []int{0, 1, 2, 3, 64, 65, 66} {
				x := api.Term{Kind: kind, Args: repeated(0, count), To: repeated(1, to)}
				want := fault{api.ErrOp, 0, 1}
				if (thing{term: &x}).shaped() {
					want = fault{}
				}
				blocks := []api.Block{block(x, con(1)), block(ret())}
				if want.e == api.OK && to == 0 {
					want = fault{api.ErrReach, 1, 0}
				}
				hold(t, "a term", function(1, blocks...), want)
			}
		}
	}
	for _, o := range []int{math.MinInt, math.MaxInt, 1<<32 + 1} {
		hold(t, "a far operation", function(0, block(ret(), api.Ins{Op: o})), fault{api.ErrOp, 0, 0})
		hold(t, "a far kind", function(0, block(api.Term{Kind: o})), fault{api.ErrOp, 0, 0})
	}
}

// TestNumbers: numbers that are made, and blocks that control goes to (P3.1, point 2).
func TestNumbers(t *testing.T) {
	for _, x := range []struct {
		name string
		f    api.Func
		want fault
	}{
		{"the least value", function(2, block(ret(), con(2))), fault{}},
		{"a parameter is made", function(2, block(ret(), con(1))), fault{api.ErrValue, 0, 0}},
		{"the greatest value", function(0, block(ret(8191), con(8191))), fault{}},
		{"one too great", function(0, block(ret(), con(8192))), fault{api.ErrValue, 0, 0}},
		{"below 0", function(0, block(ret(), con(0), con(-1))), fault{api.ErrValue, 0, 1}},
		{"a far one", function(0, block(ret(), con(math.MaxInt))), fault{api.ErrValue, 0, 0}},
		{"the second one is too great", function(1, block(ret(), mulw(1, 8192, 0, 0))), fault{api.ErrValue, 0, 0}},
		{"the second one is a parameter", function(1, block(ret(), mulw(1, 0, 0, 0))), fault{api.ErrValue, 0, 0}},
		{"both of Mulw are the same wrong one", function(1, block(ret(), mulw(0, 0, 0, 0))), fault{api.ErrValue, 0, 0}},
		{"Dst made ahead, Two wrong: ErrValue is ahead of ErrTwice", function(1, block(ret(), con(1), mulw(1, -1, 0, 0))), fault{api.ErrValue, 0, 1}},
		{"what a Store has as Dst plays no part", function(1, block(ret(), con(1), op(api.Store, 1, 0, 0), op(api.Store, -7, 0, 0))), fault{}},
		{"Two plays no part but of Mulw", function(1, block(ret(), con(1), api.Ins{Op: api.Add, Dst: 2, Two: 1, Args: []int{0, 1}})), fault{}},
		{"made twice", function(0, block(ret(), con(0), con(0))), fault{api.ErrTwice, 0, 1}},
		{"made twice by Mulw", function(1, block(ret(), mulw(1, 1, 0, 0))), fault{api.ErrTwice, 0, 0}},
		{"Two made ahead", function(1, block(ret(), con(2), mulw(1, 2, 0, 0))), fault{api.ErrTwice, 0, 1}},
		{"Dst made ahead as Two", function(1, block(ret(), mulw(1, 2, 0, 0), con(2))), fault{api.ErrTwice, 0, 1}},
		{"made twice by phis", function(1, block(jump(1)), with(block(ret()), phi(1, 0, 0), phi(1, 0, 0))), fault{api.ErrTwice, 1, -2}},
		{"made by a phi and an instruction", function(1, block(jump(1)), with(block(ret(), con(1)), phi(1, 0, 0))), fault{api.ErrTwice, 1, 0}},
		{"a phi's number", function(1, block(jump(1)), with(block(ret()), phi(1, 0, 0), phi(0, 0, 0))), fault{api.ErrValue, 1, -2}},
		{"a Jump to no block", function(0, block(jump(1))), fault{api.ErrBlock, 0, 0}},
		{"a Jump to block 0", function(0, block(jump(0))), fault{api.ErrBlock, 0, 0}},
		{"a Branch below 0", function(1, block(branch(0, 1, -1), con(1)), block(ret())), fault{api.ErrBlock, 0, 1}},
		{"a Switch far away", function(1, block(api.Term{Kind: api.Switch, Args: []int{0}, To: []int{1, 1, math.MaxInt}}), block(ret())), fault{api.ErrBlock, 0, 0}},
		{"both ways to the same", function(1, block(branch(0, 1, 1)), with(block(ret(1)), phi(1, 0, 0))), fault{}},
		{"shapes are ahead of numbers", function(0, block(ret(), op(api.Add, -1))), fault{api.ErrOp, 0, 0}},
		{"shapes in order", function(0, block(ret(), con(-1), op(99, 1))), fault{api.ErrValue, 0, 0}},
		{"shapes of all are ahead of reach", function(0, block(ret()), block(ret(), con(-1))), fault{api.ErrValue, 1, 0}},
		{"shapes of all are ahead of uses", function(0, block(jump(1), op(api.Load, 1, 7)), block(ret(1, 1))), fault{api.ErrOp, 1, 0}},
		{"In plays no part ahead of reach", function(0, block(ret()), with(block(ret()), phi(1, 9, 9))), fault{api.ErrReach, 1, 0}},
	} {
		hold(t, x.name, x.f, x.want)
	}
}

// diamond is 0, on to 1 and 2, which go on to 3.
func diamond(params int, four ...api.Block) api.Func {
	terms := []api.Term{branch(0, 1, 2), jump(3), jump(3), ret()}
	for b := range four {
		if four[b].Term.Kind == 0 {
			four[b].Term = terms[b]
		}
	}
	return api.Func{Params: params, Blocks: four}
}

// none is the term that diamond puts in.
func none() api.Term { return api.Term{} }

// TestUses: where control comes from, and what is made on all ways (P3.1, points 3 and 4).
func TestUses(t *testing.T) {
	empty := block(none())
	for _, x := range []struct {
		name string
		f    api.Func
		want fault
	}{
		{"example: a Const", function(0, block(ret(0), con(0))), fault{}},
		{"example: not made", function(0, block(ret(0))), fault{api.ErrUse, 0, 0}},
		{"not reached", function(0, block(ret()), block(jump(2)), block(jump(1))), fault{api.ErrReach, 1, 0}},
		{"reach is ahead of uses", function(0, block(ret(5)), block(ret())), fault{api.ErrReach, 1, 0}},
		{"the first that is not reached", diamond(1, block(jump(2)), empty, empty, empty), fault{api.ErrReach, 1, 0}},
		{"a parameter", function(4, block(ret(3))), fault{}},
		{"no parameter", function(3, block(ret(3))), fault{api.ErrUse, 0, 0}},
		{"below 0", function(3, block(ret(-1))), fault{api.ErrUse, 0, 0}},
		{"its own", function(1, block(ret(), op(api.Add, 1, 0, 1))), fault{api.ErrUse, 0, 0}},
		{"made behind", function(1, block(ret(), op(api.Add, 1, 0, 2), con(2))), fault{api.ErrUse, 0, 0}},
		{"made just ahead", function(1, block(ret(), con(2), op(api.Add, 1, 0, 2))), fault{}},
		{"Two is made", function(1, block(ret(2), mulw(1, 2, 0, 0))), fault{}},
		{"a Store makes nothing", function(1, block(ret(1), op(api.Store, 1, 0, 0))), fault{api.ErrUse, 0, 1}},
		{"on all ways", diamond(1, block(none(), con(1)), empty, empty, block(ret(1))), fault{}},
		{"on one way", diamond(1, empty, block(none(), con(1)), empty, block(ret(1))), fault{api.ErrUse, 3, 0}},
		{"on both ways, by two", diamond(1, empty, block(none(), con(1)), block(none(), con(2)), block(ret(2))), fault{api.ErrUse, 3, 0}},
		{"on the other way", diamond(1, empty, block(none(), con(1)), block(none(), op(api.Load, 2, 1)), empty), fault{api.ErrUse, 2, 0}},
		{"a phi of both", diamond(1, empty, block(none(), con(1)), block(none(), con(2)), with(block(ret(3)), phi(3, 1, 1, 2, 2))), fault{}},
		{"a phi the other way round", diamond(1, empty, block(none(), con(1)), block(none(), con(2)), with(block(ret(3)), phi(3, 1, 2, 2, 1))), fault{api.ErrUse, 3, -1}},
		{"a phi not in order", diamond(1, empty, empty, empty, with(empty, phi(3, 2, 0, 1, 0))), fault{api.ErrPhi, 3, -1}},
		{"a phi without one", diamond(1, empty, empty, empty, with(empty, phi(3, 1, 0))), fault{api.ErrPhi, 3, -1}},
		{"a phi with one too many", diamond(1, empty, empty, empty, with(empty, phi(3, 1, 0, 2, 0, 2, 0))), fault{api.ErrPhi, 3, -1}},
		{"a phi from elsewhere", diamond(1, empty, empty, empty, with(empty, phi(3, 0, 0, 2, 0))), fault{api.ErrPhi, 3, -1}},
		{"a phi with nothing", diamond(1, empty, empty, empty, with(empty, phi(3))), fault{api.ErrPhi, 3, -1}},
		{"a phi of block 0", function(1, with(block(ret()), phi(1))), fault{api.ErrPhi, 0, -1}},
		{"a phi of block 0 with something", function(1, with(block(ret()), phi(1, 0, 0))), fault{api.ErrPhi, 0, -1}},
		{"In is ahead of operands", diamond(1, empty, empty, empty, with(empty, phi(3, 1, 77, 3, 0))), fault{api.ErrPhi, 3, -1}},
		{"phis in order", diamond(1, empty, empty, empty, with(empty, phi(3, 1, 77, 2, 0), phi(4))), fault{api.ErrUse, 3, -1}},
		{"the second phi", diamond(1, empty, empty, empty, with(empty, phi(3, 1, 0, 2, 0), phi(4, 1, 0, 2, 9))), fault{api.ErrUse, 3, -2}},
		{"a phi takes none of its own block's, once", diamond(1, empty, empty, empty, with(empty, phi(3, 1, 0, 2, 0), phi(4, 1, 3, 2, 3))), fault{api.ErrUse, 3, -2}},
		{"a phi is there for its block", diamond(1, empty, empty, empty, with(block(ret(4), op(api.Add, 5, 3, 4)), phi(3, 1, 0, 2, 0), phi(4, 1, 0, 2, 0))), fault{}},
		{"what goes round", function(1, block(jump(1)), with(block(branch(1, 1, 2), op(api.Add, 2, 1, 3)), phi(1, 0, 0, 1, 2), phi(3, 0, 0, 1, 1)), block(ret(2))), fault{}},
		{"a phi that takes itself", function(1, block(jump(1)), with(block(branch(1, 1, 2)), phi(1, 0, 0, 1, 1)), block(ret(1))), fault{}},
		{"what goes round is not there at first", function(1, block(jump(1)), with(block(branch(1, 1, 2), con(2)), phi(1, 0, 2, 1, 2)), block(ret(1))), fault{api.ErrUse, 1, -1}},
		{"round, and taken ahead", function(1, block(jump(1)), block(branch(0, 1, 2), op(api.Load, 1, 2), con(2)), block(ret())), fault{api.ErrUse, 1, 0}},
		{"made in what goes round, taken behind", function(1, block(jump(1)), block(branch(0, 2, 3), con(1)), block(jump(1)), block(ret(1))), fault{}},
		{"made in what may be left out", function(1, block(jump(1)), block(branch(0, 2, 3)), block(jump(1), con(1)), block(ret(1))), fault{api.ErrUse, 3, 0}},
		{"uses in order of blocks, not of ways", function(1, block(jump(2)), block(ret(8)), block(jump(1), op(api.Load, 1, 9))), fault{api.ErrUse, 1, 0}},
		{"made in a block of a higher number", function(1, block(jump(2)), block(ret(1)), block(jump(1), con(1))), fault{}},
		{"the last of many operands", function(1, block(ret(), op(api.Call, 1, 0, 0, 0, 1))), fault{api.ErrUse, 0, 0}},
	} {
		hold(t, x.name, x.f, x.want)
	}
}

// ladder is a function at the limits: each block goes on to the next one, and to the last one, whose phis take something from each.
func ladder() api.Func {
	const last = api.MaxBlocks - 1
	f := api.Func{Blocks: make([]api.Block, api.MaxBlocks)}
	f.Blocks[0].Ins = []api.Ins{con(0)}
	for b := range last {
		f.Blocks[b].Term = branch(0, b+1, last)
	}
	f.Blocks[last].Term = ret()
	for v := 1; v < api.MaxIns-api.MaxBlocks; v++ {
		p := api.Phi{Dst: v}
		for from := range last {
			p.In = append(p.In, api.In{From: from})
		}
		f.Blocks[last].Phis = append(f.Blocks[last].Phis, p)
	}
	return f
}

// TestLimits: functions at the limits, and far beyond (P3.1).
func TestLimits(t *testing.T) {
	f := ladder()
	if got := told(f); got != (fault{}) {
		t.Errorf("a ladder: %v", got)
	}
	last := len(f.Blocks) - 1
	n := len(f.Blocks[last].Phis) - 1
	f.Blocks[last].Phis[n].In[last-1].Val = 1
	if got := told(f); got != (fault{api.ErrUse, last, -1 - n}) {
		t.Errorf("a ladder whose last operand is wrong: %v", got)
	}
	far := slices.Repeat([]int{1}, 1<<20)
	for _, f := range []api.Func{
		function(1, block(api.Term{Kind: api.Switch, Args: []int{0}, To: far}), block(ret())),
		function(1, block(ret(far...))),
		function(1, block(ret(), op(api.Call, 1, far...))),
	} {
		if got := told(f); got != (fault{api.ErrOp, 0, 0}) {
			t.Errorf("long rows: %v", got)
		}
	}
	p := api.Phi{Dst: 1, In: make([]api.In, 1<<20)}
	if got := told(function(1, block(jump(1)), with(block(ret()), p))); got != (fault{api.ErrPhi, 1, -1}) {
		t.Errorf("a long phi: %v", got)
	}
	if got := told(api.Func{Blocks: make([]api.Block, 1<<20)}); got != (fault{e: api.ErrMany}) {
		t.Errorf("many blocks: %v", got)
	}
}

// TestMade: in a function that may be each operand was made, on whatever way control comes there (P3.4).
func TestMade(t *testing.T) {
	next := numbers(5)
	ways := 0
	for _, f := range samples(11, 9000) {
		if !check.Right(f) {
			continue
		}
		for range 5 {
			ways++
			walk(t, f, next)
		}
	}
	if ways < 5000 {
		t.Error("only", ways)
	}
}

// walk goes through a function by any way, and looks at what is made.
func walk(t *testing.T, f api.Func, next func(int) int) {
	t.Helper()
	made := map[int]bool{}
	for v := range f.Params {
		made[v] = true
	}
	hold := func(l []int) {
		for _, v := range l {
			if !made[v] {
				t.Fatalf("%v: %d was not made", f, v)
			}
		}
	}
	b, from := 0, -1
	for range 30 {
		block := f.Blocks[b]
		var phis []int
		for _, p := range block.Phis {
			i := slices.IndexFunc(p.In, func(in api.In) bool { return in.From == from })
			hold([]int{p.In[i].Val})
			phis = append(phis, p.Dst)
		}
		for _, v := range phis {
			made[v] = true
		}
		for n := range block.Ins {
			x := thing{ins: &block.Ins[n]}
			hold(x.takes())
			for _, v := range x.makes() {
				made[v] = true
			}
		}
		hold(block.Term.Args)
		if len(block.Term.To) == 0 {
			return
		}
		b, from = block.Term.To[next(len(block.Term.To))], b
	}
}

// copied is a function of rows of its own.
func copied(f api.Func) api.Func {
	f.Blocks = slices.Clone(f.Blocks)
	for b := range f.Blocks {
		x := &f.Blocks[b]
		x.Phis, x.Ins = slices.Clone(x.Phis), slices.Clone(x.Ins)
		for n := range x.Phis {
			x.Phis[n].In = slices.Clone(x.Phis[n].In)
		}
		for n := range x.Ins {
			x.Ins[n].Args = slices.Clone(x.Ins[n].Args)
		}
		x.Term.Args, x.Term.To = slices.Clone(x.Term.Args), slices.Clone(x.Term.To)
	}
	return f
}

// TestKept: what is handed in stays as it was, and is not kept; answers are the caller's, and the same each time (R1, R3, R4).
func TestKept(t *testing.T) {
	answers := func(f api.Func) []any {
		return []any{told(f), check.Right(f), check.Top(f), check.Uses(f), check.Foldable(f, 3), check.Foldable(f, 6)}
	}
	for _, f := range samples(23, 3000) {
		before := copied(f)
		first := answers(f)
		if !reflect.DeepEqual(f, before) {
			t.Fatalf("%v was changed to %v", before, f)
		}
		second := answers(before)
		if !reflect.DeepEqual(first, second) {
			t.Fatalf("%v: %v, and then %v", f, first, second)
		}
		for _, x := range things(before) {
			if x.phi != nil {
				clear(x.phi.In)
				continue
			}
			clear(x.takes())
		}
		uses := second[3].([]int)
		for i := range uses {
			uses[i] = -5
		}
		if !reflect.DeepEqual(first, answers(f)) {
			t.Fatalf("%v: something was kept", f)
		}
	}
}
