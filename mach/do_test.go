package mach_test

import (
	"math"
	"slices"
	"testing"

	"jacquard/api"
	"jacquard/mach"
	"jacquard/sample"
)

// far are numbers that may stand where a register, or an operation, should.
var far = []int{math.MinInt, -1 << 32, -9, -1, 0, 1, 31, 32, 40, 1 << 32, math.MaxInt}

// TestNames: which registers an instruction, or an end, takes and makes, in order, as often as they are named (P7.1).
func TestNames(t *testing.T) {
	for op := -3; op <= 40; op++ {
		for _, l := range [][5]int{{1, 2, 3, 4, 5}, {7, 7, 7, 7, 7}, {-1, math.MinInt, 8192, math.MaxInt, 0}} {
			for args := range 7 {
				i := api.Mach{Op: op, D: l[0], E: l[1], A: l[2], B: l[3], C: l[4], Imm: 9, Args: []int{8, 8, -8, 9000, 1, 0}[:args]}
				makes, takes := named(i)
				if got := mach.Makes(i); !slices.Equal(got, makes) {
					t.Errorf("%v makes %v, not %v", i, got, makes)
				}
				if got := mach.Takes(i); !slices.Equal(got, takes) {
					t.Errorf("%v takes %v, not %v", i, got, takes)
				}
			}
			e := api.End{Op: op, A: l[2], B: l[3], Imm: 9, To: []int{1, 2}}
			for _, e.A = range []int{l[2], -1, 0, math.MinInt, math.MaxInt} {
				if got := mach.Needs(e); !slices.Equal(got, needed(e)) {
					t.Errorf("%v needs %v, not %v", e, got, needed(e))
				}
			}
		}
	}
	for _, op := range far[:4] {
		i, e := api.Mach{Op: op, D: 1, A: 2, Args: []int{3}}, api.End{Op: op, A: 1, B: 2}
		if len(mach.Takes(i))+len(mach.Makes(i))+len(mach.Needs(e)) > 0 {
			t.Errorf("%d has registers", op)
		}
	}
	long := make([]int, 1<<20)
	if got := mach.Takes(call(1, 0, long...)); len(got) != len(long) {
		t.Errorf("a long call: %d", len(got))
	}
}

// TestNamesPlain: some that are written out (P7.1).
func TestNamesPlain(t *testing.T) {
	for _, x := range []struct {
		i            api.Mach
		makes, takes []int
	}{
		{abc(api.MSwap, 9, 1, 2, 3), []int{1, 2}, []int{1, 2}}, {abc(api.MMadd, 4, 1, 2, 3), []int{4}, []int{1, 2, 3}}, {abc(api.MStX, 4, 3, 2, 1), nil, []int{3, 2, 1}},
		{call(5, 77, 2, 2, 1), []int{5}, []int{2, 2, 1}}, {api.Mach{Op: api.MMulw, D: 6, E: 5, A: 4, B: 3}, []int{6, 5}, []int{4, 3}}, {imm(api.MSld, 3, 1, 0), []int{3}, nil}, {imm(api.MSst, 3, 1, 0), nil, []int{1}},
	} {
		if !slices.Equal(mach.Makes(x.i), x.makes) || !slices.Equal(mach.Takes(x.i), x.takes) {
			t.Errorf("%v: %v, %v", x.i, mach.Makes(x.i), mach.Takes(x.i))
		}
	}
}

// TestGoes: where an end goes (P7.3).
func TestGoes(t *testing.T) {
	odd := []int32{math.MinInt32, math.MinInt32 + 1, -2, -1, 0, 1, 2, 3, 4, 62, 63, 64, 65, math.MaxInt32}
	for op := -2; op <= 11; op++ {
		for _, a := range odd {
			for _, b := range odd {
				for _, to := range []int{0, 1, 2, 3, 5, 64, 65, 66, 70} {
					regs := []int32{77, a, b, 78}
					e := api.End{Op: op, A: 1, B: 2, To: make([]int, to), Imm: 5}
					if got, want := mach.Goes(e, regs), leads(e, []int64{int64(a), int64(b)}); got != want {
						t.Fatalf("%d of %d, %d with %d To: %d, not %d", op, a, b, to, got, want)
					}
					e.A, e.B = 2, 2
					if got, want := mach.Goes(e, regs), leads(e, []int64{int64(b), int64(b)}); got != want {
						t.Fatalf("%d of the same %d with %d To: %d, not %d", op, b, to, got, want)
					}
				}
			}
		}
	}
	for _, op := range []int{math.MinInt, math.MaxInt, 1<<32 + 1} {
		if got := mach.Goes(api.End{Op: op, To: []int{1, 2}}, []int32{1}); got != -1 {
			t.Errorf("%d: %d", op, got)
		}
	}
}

// TestGoesPlain: some that are written out (P7.3).
func TestGoesPlain(t *testing.T) {
	regs := []int32{0, 5, -1, 2}
	for _, x := range []struct {
		e    api.End
		want int
	}{
		{api.End{Op: api.EJ}, 0}, {jump(9), 0}, {ret(1), -1}, {ret(-1), -1}, {trap(1), -1}, {api.End{}, -1},
		{bnz(1, 8, 9), 0}, {bnz(0, 8, 9), 1}, {bnz(2, 8, 9), 0}, {bnz(4, 8, 9), 1}, {bnz(-1, 8, 9), 1}, {bnz(math.MinInt, 8, 9), 1}, {bnz(math.MaxInt, 8, 9), 1},
		{end(api.EBeq, 0, 1, 8, 9), 1}, {end(api.EBeq, 1, 1, 8, 9), 0}, {end(api.EBeq, 0, 4, 8, 9), 0}, {end(api.EBeq, 1, -1, 8, 9), 1}, {end(api.EBeq, -5, 99, 8, 9), 0},
		{end(api.EBlt, 2, 0, 8, 9), 0}, {end(api.EBlt, 0, 2, 8, 9), 1}, {end(api.EBlt, 2, 99, 8, 9), 0}, {end(api.EBlt, 0, 0, 8, 9), 1}, {end(api.EBlt, -1, 1, 8, 9), 0},
		{end(api.EBltu, 2, 0, 8, 9), 1}, {end(api.EBltu, 0, 2, 8, 9), 0}, {end(api.EBltu, 3, 1, 8, 9), 0}, {end(api.EBltu, -1, 2, 8, 9), 0},
		{jt(3, 7, 7, 7, 7), 2}, {jt(3, 7, 7, 7), 2}, {jt(3, 7, 7), 1}, {jt(3, 7), 0}, {jt(3), -1}, {jt(0, 7, 7), 0}, {jt(0, 7), 0}, {jt(0), -1}, {jt(2, 7, 7, 7), 2}, {jt(2), -1}, {jt(9, 7, 7), 0}, {jt(-9, 7, 7), 0},
	} {
		if got := mach.Goes(x.e, regs); got != x.want {
			t.Errorf("%v: %d, not %d", x.e, got, x.want)
		}
	}
	if mach.Goes(bnz(0, 1, 2), nil) != 1 || mach.Goes(jt(0, 1, 2), nil) != 0 || mach.Goes(end(api.EBeq, 0, 1, 1, 2), nil) != 0 {
		t.Error("no registers")
	}
}

// state is registers and memory.
type state struct{ regs, mem []int32 }

// copy is a state of its own.
func (s state) copy() state { return state{slices.Clone(s.regs), slices.Clone(s.mem)} }

// word is that of a register; 0 of one that there is not.
func (s state) word(r int) int64 {
	if r < 0 || r >= len(s.regs) {
		return 0
	}
	return int64(s.regs[r])
}

// expected is what Do must leave and tell, by the chapter's words.
func expected(i api.Mach, s state) (state, int32, bool) {
	s = s.copy()
	if i.Op < 1 || i.Op == 28 || i.Op > 29 {
		return s, 0, true
	}
	makes, takes := named(i)
	var a []int64
	for _, r := range takes {
		a = append(a, s.word(r))
	}
	x := sample.Meaning(i, a, s.mem)
	if x.Trap != 0 {
		return s, x.Trap, false
	}
	if x.Stores {
		s.mem[x.At] = int32(x.Store)
	}
	for n, r := range makes {
		if r >= 0 && r < len(s.regs) {
			s.regs[r] = int32(x.Made[n])
		}
	}
	return s, 0, true
}

// doing holds what Do leaves and tells against what is written out.
func doing(t *testing.T, i api.Mach, s, want state, val int32, ok bool) {
	t.Helper()
	got := s.copy()
	v, so := mach.Do(i, got.regs, got.mem)
	if v != val || so != ok || !slices.Equal(got.regs, want.regs) || !slices.Equal(got.mem, want.mem) {
		t.Fatalf("%v with %v: %v, %d, %v, not %v, %d, %v", i, s, got, v, so, want, val, ok)
	}
}

// TestDo: an instruction of any operation, with any registers, those that there are and those that there are not (P7.4).
func TestDo(t *testing.T) {
	next, traps, done := sample.Numbers(31), map[int32]int{}, make([]int, 32)
	for range 200000 {
		s := state{sample.MWords(next, 12), sample.MWords(next, 20)}
		i := api.Mach{Op: 1 + next(31), Imm: sample.MWord(next), Args: []int{next(5)}}
		for _, field := range []*int{&i.D, &i.E, &i.A, &i.B, &i.C} {
			*field = next(10)
			if next(12) == 0 {
				*field = sample.One(next, far...)
			}
		}
		if next(3) == 0 {
			i.Imm = int32(next(8) - 1)
		}
		want, val, ok := expected(i, s)
		doing(t, i, s, want, val, ok)
		if traps[val]++; ok {
			done[i.Op]++
		}
	}
	for op := 1; op <= 31; op++ {
		if done[op] < 300 {
			t.Errorf("only %d of %d", done[op], op)
		}
	}
	if traps[api.TrapDiv] < 500 || traps[api.TrapMem] < 5000 || len(traps) != 3 {
		t.Errorf("traps: %v", traps)
	}
}

// TestDoPlain: some that are written out, so that nothing hangs on what is reckoned (P7.4).
func TestDoPlain(t *testing.T) {
	const least, most = math.MinInt32, math.MaxInt32
	for _, x := range []struct {
		i          api.Mach
		a, b, c, d int32
	}{
		{i: abc(api.MAdd, 3, 0, 1, 2), a: most, b: 1, d: least}, {i: abc(api.MSub, 3, 0, 1, 2), a: 3, b: 5, d: -2}, {i: abc(api.MMul, 3, 0, 1, 2), a: 1 << 30, b: 4}, {i: abc(api.MAnd, 3, 0, 1, 2), a: 12, b: 10, d: 8}, {i: abc(api.MOr, 3, 0, 1, 2), a: 12, b: 10, d: 14}, {i: abc(api.MXor, 3, 0, 1, 2), a: 12, b: 10, d: 6},
		{i: abc(api.MShl, 3, 0, 1, 2), a: 1, b: 33, d: 2}, {i: abc(api.MShr, 3, 0, 1, 2), a: -1, b: 31, d: 1}, {i: abc(api.MSar, 3, 0, 1, 2), a: -8, b: 33, d: -4}, {i: abc(api.MEq, 3, 0, 1, 2), a: 4, b: 4, d: 1}, {i: abc(api.MLt, 3, 0, 1, 2), a: -1, d: 1}, {i: abc(api.MLtu, 3, 0, 1, 2), a: -1}, {i: abc(api.MDiv, 3, 0, 1, 2), a: -7, b: 2, d: -3}, {i: abc(api.MDiv, 3, 0, 1, 2), a: least, b: -1, d: least},
		{i: abc(api.MMov, 3, 0, 1, 2), a: 9, b: 5, d: 9}, {i: imm(api.MLi, 3, 0, -5), d: -5}, {i: imm(api.MLiw, 3, 0, most), d: most}, {i: imm(api.MLi, 3, 0, least), d: least},
		{i: imm(api.MAddI, 3, 0, -3), a: 5, d: 2}, {i: imm(api.MAddI, 3, 0, most), a: 1, d: least}, {i: imm(api.MAndI, 3, 0, -2), a: 7, d: 6}, {i: imm(api.MShlI, 3, 0, 4), a: 3, d: 48}, {i: imm(api.MShlI, 3, 0, 36), a: 3, d: 48}, {i: imm(api.MShrI, 3, 0, 1), a: -2, d: most}, {i: imm(api.MSarI, 3, 0, 1), a: -3, d: -2}, {i: imm(api.MSarI, 3, 0, -1), a: -3, d: -1},
		{i: abc(api.MMadd, 3, 0, 1, 2), a: 6, b: 7, c: -2, d: 40}, {i: abc(api.MMadd, 3, 0, 1, 2), a: 1 << 31 >> 1, b: 2, c: -1, d: most},
	} {
		doing(t, x.i, state{regs: []int32{x.a, x.b, x.c, 99}}, state{regs: []int32{x.a, x.b, x.c, x.d}}, 0, true)
	}
}

// TestWhere: what goes where: to registers that are named twice, or that there are not (P7.4).
func TestWhere(t *testing.T) {
	row := func(l ...int32) []int32 { return l }
	mulw := func(d, e int) api.Mach { return api.Mach{Op: api.MMulw, D: d, E: e, A: 0, B: 1} }
	for _, x := range []struct {
		i              api.Mach
		regs, mem      []int32
		wantRegs, want []int32
		val            int32
	}{
		{abc(api.MSwap, 0, 0, 1, 0), row(5, 6), nil, row(6, 5), nil, 0}, {abc(api.MSwap, 0, 1, 1, 0), row(5, 6), nil, row(5, 6), nil, 0}, {abc(api.MSwap, 0, 1, 7, 0), row(5, 6), nil, row(5, 0), nil, 0}, {abc(api.MSwap, 0, -1, 0, 0), row(5, 6), nil, row(0, 6), nil, 0}, {abc(api.MSwap, 0, -1, 9, 0), row(5, 6), nil, row(5, 6), nil, 0},
		{mulw(2, 3), row(-1, 5, 7, 7), nil, row(-1, 5, -5, -1), nil, 0}, {mulw(3, 2), row(-1, 5, 7, 7), nil, row(-1, 5, -1, -5), nil, 0}, {mulw(1, 0), row(-1, 5, 7, 7), nil, row(-1, -5, 7, 7), nil, 0}, {mulw(0, 1), row(-1, 5), nil, row(-5, -1), nil, 0}, {mulw(1, 1), row(1<<20, 1<<20), nil, row(1<<20, 256), nil, 0}, {mulw(9, 1), row(1<<20, 1<<20), nil, row(1<<20, 256), nil, 0}, {mulw(1, -9), row(3, 5), nil, row(3, 15), nil, 0},
		{abc(api.MMov, 4, 0, 0, 0), row(5), nil, row(5), nil, 0}, {abc(api.MMov, 0, 4, 0, 0), row(5), nil, row(0), nil, 0}, {abc(api.MAdd, 0, 0, 9, 0), row(5), nil, row(5), nil, 0}, {abc(api.MEq, 0, 8, 9, 0), row(5), nil, row(1), nil, 0}, {abc(api.MMadd, 0, 0, 0, 0), row(5), nil, row(30), nil, 0},
		{abc(api.MDiv, 0, 0, 1, 0), row(5, 0), nil, row(5, 0), nil, api.TrapDiv}, {abc(api.MDiv, 0, 0, 1, 0), row(5), nil, row(5), nil, api.TrapDiv}, {abc(api.MDiv, 9, 0, 1, 0), row(5, 0), nil, row(5, 0), nil, api.TrapDiv}, {abc(api.MDiv, 9, 9, 0, 0), row(5), nil, row(5), nil, 0},
		{imm(api.MLd, 1, 0, 3), row(-2, 9), row(70, 80), row(-2, 80), row(70, 80), 0}, {imm(api.MLd, 1, 0, 3), row(-1, 9), row(70, 80), row(-1, 9), row(70, 80), api.TrapMem}, {imm(api.MLd, 1, 0, -1), row(0, 9), row(70, 80), row(0, 9), row(70, 80), api.TrapMem}, {imm(api.MLd, 9, 0, 0), row(5), row(70), row(5), row(70), api.TrapMem}, {imm(api.MLd, 0, 9, 0), row(5), row(70), row(70), row(70), 0}, {imm(api.MLd, 0, 0, math.MaxInt32), row(math.MinInt32), row(70), row(math.MinInt32), row(70), api.TrapMem}, {imm(api.MLd, 0, 0, math.MinInt32), row(math.MinInt32), row(70), row(70), row(70), 0}, {imm(api.MLd, 0, 0, 0), row(0), nil, row(0), nil, api.TrapMem},
		{abc(api.MLdX, 0, 0, 1, 0), row(3, -2), row(70, 80), row(80, -2), row(70, 80), 0}, {abc(api.MLdX, 0, 0, 1, 0), row(3, -4), row(70, 80), row(3, -4), row(70, 80), api.TrapMem}, {abc(api.MLdX, 0, 0, 0, 0), row(1), row(70, 80, 90), row(90), row(70, 80, 90), 0},
		{api.Mach{Op: api.MSt, A: 0, B: 1, Imm: 1}, row(0, 9), row(70, 80), row(0, 9), row(70, 9), 0}, {api.Mach{Op: api.MSt, A: 0, B: 1, Imm: 2}, row(0, 9), row(70, 80), row(0, 9), row(70, 80), api.TrapMem}, {api.Mach{Op: api.MSt, A: 9, B: 8}, row(3), row(70, 80), row(3), row(0, 80), 0},
		{abc(api.MStX, 0, 0, 1, 2), row(3, -2, 9), row(70, 80), row(3, -2, 9), row(70, 9), 0}, {abc(api.MStX, 0, 0, 1, 2), row(3, -1, 9), row(70, 80), row(3, -1, 9), row(70, 80), api.TrapMem}, {abc(api.MStX, 0, 0, 0, 0), row(1), row(70, 80, 90), row(1), row(70, 80, 1), 0},
		{call(0, 5, 0), row(3), row(70), row(3), row(70), 0}, {imm(api.MSld, 0, 0, 0), row(3), row(70), row(3), row(70), 0}, {imm(api.MSst, 0, 0, 0), row(3), row(70), row(3), row(70), 0}, {imm(0, 0, 0, 0), row(3), row(70), row(3), row(70), 0}, {imm(32, 0, 0, 7), row(3), row(70), row(3), row(70), 0}, {imm(math.MinInt, 0, 0, 7), row(3), row(70), row(3), row(70), 0}, {imm(math.MaxInt, 0, 0, 7), row(3), row(70), row(3), row(70), 0},
	} {
		doing(t, x.i, state{x.regs, x.mem}, state{x.wantRegs, x.want}, x.val, x.val == 0)
	}
	// Memory that Do is handed has as many words as there are, also more than a run's.
	mem := make([]int32, api.MaxMem+2)
	if v, ok := mach.Do(api.Mach{Op: api.MSt, A: 0, B: 0}, []int32{api.MaxMem + 1}, mem); v != 0 || !ok || mem[api.MaxMem+1] != api.MaxMem+1 {
		t.Errorf("a long memory: %d, %v", v, ok)
	}
	for op := range 33 {
		i := api.Mach{Op: op}
		_, val, ok := expected(i, state{})
		doing(t, i, state{}, state{}, val, ok)
	}
}

// TestHangs: an instruction changes no register but those that it makes, and hangs on none but those that it takes (P7.7).
func TestHangs(t *testing.T) {
	next := sample.Numbers(91)
	for range 60000 {
		i := api.Mach{Op: 1 + next(31), D: next(8), E: next(8), A: next(8), B: next(8), C: next(8), Imm: int32(next(9) - 2), Args: []int{next(8)}}
		s := state{mem: sample.MWords(next, 9)}
		for range 8 {
			s.regs = append(s.regs, sample.MWord(next))
		}
		makes, takes := mach.Makes(i), mach.Takes(i)
		one, other := s.copy(), s.copy()
		for r := range other.regs {
			if !slices.Contains(takes, r) {
				other.regs[r] = sample.MWord(next)
			}
		}
		was := other.copy()
		v, ok := mach.Do(i, one.regs, one.mem)
		w, so := mach.Do(i, other.regs, other.mem)
		if v != w || ok != so || !slices.Equal(one.mem, other.mem) {
			t.Fatalf("%v with %v: %d, %v, but with %v %d, %v", i, s, v, ok, was, w, so)
		}
		reckons := i.Op < api.MCall || i.Op == api.MMulw
		for r := range s.regs {
			if made := slices.Contains(makes, r); made && ok && reckons && one.regs[r] != other.regs[r] {
				t.Fatalf("%v with %v: %v, but with %v %v", i, s, one, was, other)
			} else if (!made || !ok) && (one.regs[r] != s.regs[r] || other.regs[r] != was.regs[r]) {
				t.Fatalf("%v with %v: %v: register %d changed", i, s, one, r)
			}
		}
	}
}
