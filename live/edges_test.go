package live_test

import (
	"reflect"
	"slices"
	"testing"

	"jacquard/api"
	"jacquard/live"
	"jacquard/mach"
	"jacquard/sample"
)

// silent holds that of code that may not be nothing is told.
func silent(t *testing.T, name string, m api.MFunc) {
	t.Helper()
	if mach.Right(m) {
		t.Fatalf("%s: may be", name)
	}
	if in, out := live.Sets(m); len(in) > 0 || len(out) > 0 {
		t.Errorf("%s: in %v, out %v", name, in, out)
	}
	for place := -1; place < 3; place++ {
		if l, n := live.At(m, 0, place), live.Number(m, 0, place); len(l) > 0 || n != -1 {
			t.Errorf("%s: at %d: %v, number %d", name, place, l, n)
		}
	}
	for r := -1; r < 4; r++ {
		if l := live.Ranges(m, r); len(l) > 0 || live.Together(m, r, r) || live.Together(m, 0, r) {
			t.Errorf("%s: %d has %v", name, r, l)
		}
	}
	if n := live.Most(m); n != 0 {
		t.Errorf("%s: most %d", name, n)
	}
}

// TestWrong: of code that may not be, whatever is wrong with it, nothing is told, though something else could be (P10.1 to P10.4).
func TestWrong(t *testing.T) {
	silent(t, "nothing", api.MFunc{})
	for _, x := range []struct {
		name string
		turn func(m *api.MFunc)
	}{
		{"too few parameters", func(m *api.MFunc) { m.Params = -1 }},
		{"too many parameters", func(m *api.MFunc) { m.Params = 5 }},
		{"too many blocks", func(m *api.MFunc) { m.Blocks = append(m.Blocks, make([]api.MBlock, api.MaxBlocks)...) }},
		{"no operation", func(m *api.MFunc) { m.Blocks[1].Ins[0].Op = 0 }},
		{"a swap", func(m *api.MFunc) { m.Blocks[1].Ins[0].Op = api.MSwap }},
		{"a slot", func(m *api.MFunc) { m.Blocks[1].Ins[0].Op = api.MSld }},
		{"a call of too many", func(m *api.MFunc) { m.Blocks[1].Ins[0] = call(3, 0, 0, 0, 0, 0, 0) }},
		{"no register made", func(m *api.MFunc) { m.Blocks[1].Ins[0].D = api.MaxValues }},
		{"no register taken", func(m *api.MFunc) { m.Blocks[1].Ins[0].A = -1 }},
		{"no register taken by an end", func(m *api.MFunc) { m.Blocks[2].End.A = api.MaxValues }},
		{"no register made by a phi", func(m *api.MFunc) { m.Blocks[1].Phis[0].Dst = -1 }},
		{"no register taken by a phi", func(m *api.MFunc) { m.Blocks[1].Phis[0].In[1].Val = api.MaxValues }},
		{"one register for both halves", func(m *api.MFunc) { m.Blocks[1].Ins[0] = api.Mach{Op: api.MMulw, D: 3, E: 3} }},
		{"one register for two phis", func(m *api.MFunc) { m.Blocks[1].Phis = slices.Repeat(m.Blocks[1].Phis, 2) }},
		{"a great number", func(m *api.MFunc) { m.Blocks[1].Ins[0].Imm = 128 }},
		{"no end", func(m *api.MFunc) { m.Blocks[2].End.Op = 0 }},
		{"one way too few", func(m *api.MFunc) { m.Blocks[1].End.To = row(1) }},
		{"on to no block", func(m *api.MFunc) { m.Blocks[1].End.To = row(1, 3) }},
		{"on to the first block", func(m *api.MFunc) { m.Blocks[1].End.To = row(1, 0) }},
		{"a block that is not reached", func(m *api.MFunc) { m.Blocks[1].End.To = row(1, 1) }},
		{"a phi of too few", func(m *api.MFunc) { m.Blocks[1].Phis[0].In = m.Blocks[1].Phis[0].In[:1] }},
		{"a phi from elsewhere", func(m *api.MFunc) { m.Blocks[1].Phis[0].In[1].From = 9 }},
		{"a phi of the first block", func(m *api.MFunc) { m.Blocks[0].Phis = []api.Phi{phi(2)} }},
	} {
		m := code(1, block(jump(1), li(1, 0)), with(block(end(api.EBlt, 3, 0, 1, 2), imm(api.MAddI, 3, 2, 1)), phi(2, 0, 1, 1, 3)), block(ret(3)))
		if live.Most(m) != 2 {
			t.Fatal("nothing is told of what may be")
		}
		x.turn(&m)
		silent(t, x.name, m)
	}
}

// TestFarRegisters: a register of which nothing is said has no ranges, and is not together with any, itself not either (P10.4, P10.5).
func TestFarRegisters(t *testing.T) {
	all := block(ret(-1), abc(api.MAdd, 8191, 0, 8191, 0), abc(api.MAdd, 63, 64, 8190, 0))
	m := code(4, all)
	for _, r := range append(row(1<<20, 4, 5, 62, 65, 127, 128, 8189), far...) {
		if rs := live.Ranges(m, r); len(rs) > 0 {
			t.Errorf("%d has %v", r, rs)
		}
		for _, other := range row(0, 63, 64, 8190, 8191, r) {
			if live.Together(m, r, other) || live.Together(m, other, r) {
				t.Errorf("%d is together with %d", r, other)
			}
		}
	}
	for _, r := range row(0, 1, 2, 3, 63, 64, 8190, 8191) {
		if len(live.Ranges(m, r)) != 1 || !live.Together(m, r, r) {
			t.Errorf("%d has %v", r, live.Ranges(m, r))
		}
	}
}

// long is the longest way through the most blocks: from block 0 to the last one, from there back to block 1, which takes all registers that there are. It has as many parts as there may be.
func long() api.MFunc {
	m := code(4, make([]api.MBlock, api.MaxBlocks)...)
	m.Blocks[0] = block(jump(api.MaxBlocks - 1))
	for b := 2; b < api.MaxBlocks; b++ {
		m.Blocks[b] = block(jump(b - 1))
	}
	m.Blocks[1] = block(ret(-1))
	for n := range 4*api.MaxIns - api.MaxBlocks {
		r := 3 * n
		i := abc(api.MStX, 0, min(r, 8191), min(r+1, 8191), min(r+2, 8191))
		if r > 8191 {
			i = li(8191, 0)
		}
		m.Blocks[1].Ins = append(m.Blocks[1].Ins, i)
	}
	return m
}

// TestLong: all registers live on through all blocks (P10.1 to P10.4).
func TestLong(t *testing.T) {
	m := long()
	if e, b, p := mach.Func(m); e != api.OK {
		t.Fatal(e, b, p)
	}
	var all []int
	for r := range api.MaxValues {
		all = append(all, r)
	}
	in, out := live.Sets(m)
	for b := range m.Blocks {
		behind := all
		if b == 1 {
			behind = nil
		}
		if !slices.Equal(in[b], all) || !slices.Equal(out[b], behind) {
			t.Fatalf("block %d: %d, and %d are live", b, len(in[b]), len(out[b]))
		}
	}
	parts := 1 + len(m.Blocks[1].Ins) + 1
	for _, r := range row(0, 1, 3, 62, 63, 64, 4095, 4096, 8188, 8189, 8190) {
		want := []api.Range{{From: 0, To: 2 + r/3}, {From: parts, To: parts + api.MaxBlocks - 2}}
		if got := live.Ranges(m, r); !slices.Equal(got, want) {
			t.Errorf("%d has %v, not %v", r, got, want)
		}
		if !live.Together(m, r, 8190) {
			t.Errorf("%d is not together with 8190", r)
		}
	}
	// The last one is made anew as often as there is room: only ahead of the first time nothing has it.
	if got := live.Ranges(m, 8191); !slices.Equal(got, []api.Range{{From: 0, To: 2732}, {From: 2733, To: 4 * api.MaxIns}}) {
		t.Errorf("8191 has %v", got)
	}
	if n := live.Most(m); n != api.MaxValues {
		t.Errorf("most %d", n)
	}
	if got := live.At(m, 1, 2730); !slices.Equal(got, row(8190, 8191)) {
		t.Errorf("at the last of them %v are live", got)
	}
	last := len(m.Blocks) - 1
	if n, none := live.Number(m, last, 0), live.Number(m, last, 1); n != 4*api.MaxIns-1 || none != -1 {
		t.Errorf("the last place has the number %d, the one behind it %d", n, none)
	}
	m.Blocks[0].Ins = []api.Mach{li(0, 0)}
	silent(t, "one part too many", m)
}

// TestWeb: all blocks go on to as many as they can, each has phis that nothing takes, and one makes what all others take (P10.1, P10.4).
func TestWeb(t *testing.T) {
	const n = api.MaxBlocks
	m, preds := code(0, make([]api.MBlock, n)...), make([][]int, n)
	for b := range m.Blocks {
		m.Blocks[b].End = jt(8000)
		for k := range api.MaxTable + 1 {
			to := 1 + (b+k)%(n-1)
			m.Blocks[b].End.To = append(m.Blocks[b].End.To, to)
			preds[to] = append(preds[to], b)
		}
	}
	for b := 1; b < n; b++ {
		for k := range 15 {
			p := api.Phi{Dst: 15*b + k}
			for _, from := range preds[b] {
				p.In = append(p.In, api.In{From: from, Val: 7700 + k})
			}
			m.Blocks[b].Phis = append(m.Blocks[b].Phis, p)
		}
		m.Blocks[b].Ins = []api.Mach{{Op: api.MSt, A: 7800, B: 0}}
	}
	m.Blocks[300].Ins[0] = li(7800, 5)
	want := row(0)
	for k := range 15 {
		want = append(want, 7700+k)
	}
	want = append(want, 7800, 8000)
	in, out := live.Sets(m)
	for b := range m.Blocks {
		begin := slices.Clone(want)
		if b == 300 {
			begin = slices.Delete(begin, 16, 17)
		}
		if !slices.Equal(in[b], begin) || !slices.Equal(out[b], want) {
			t.Fatalf("block %d: in %v, out %v", b, in[b], out[b])
		}
	}
	if live.Most(m) != len(want)+15 {
		t.Errorf("most %d", live.Most(m))
	}
}

// answers are all that is told of machine code.
func answers(m api.MFunc) []any {
	in, out := live.Sets(m)
	l := []any{in, out, live.Most(m)}
	for _, at := range spots(m) {
		l = append(l, live.At(m, at.block, at.place), live.Number(m, at.block, at.place))
	}
	for r := range 10 {
		l = append(l, live.Ranges(m, r), live.Together(m, r, 4))
	}
	return l
}

// TestKept: what is handed in stays as it was, and is not kept; answers are the caller's, share nothing, and are the same each time (R1, R3, R4).
func TestKept(t *testing.T) {
	for _, x := range sample.MRuns(31, 300) {
		m := sample.CopiedCode(x.M)
		first, second := answers(m), answers(m)
		if !reflect.DeepEqual(m, sample.CopiedCode(x.M)) {
			t.Fatalf("%v: changed to %v", x.M, m)
		}
		if !reflect.DeepEqual(first, second) {
			t.Fatalf("%v: %v, and then %v", m, first, second)
		}
		sample.ScribbleRows(second)
		sample.ScribbleCode(m)
		if again := answers(x.M); !reflect.DeepEqual(first, again) {
			t.Fatalf("%v: %v became %v", x.M, again, first)
		}
	}
	// Rows of one answer do not lie one behind the other.
	in, out := live.Sets(code(3, block(jump(1)), block(jump(2)), block(ret(0))))
	for n := range in {
		_, _ = append(in[n], 99), append(out[n], 99)
	}
	if !sameRows(in, rows(row(0), row(0), row(0))) || !sameRows(out, rows(row(0), row(0), nil)) {
		t.Errorf("in %v, out %v", in, out)
	}
}
