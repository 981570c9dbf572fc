package tile_test

import (
	"math"
	"reflect"
	"slices"
	"strings"
	"testing"

	"jacquard/api"
	"jacquard/check"
	"jacquard/sample"
	"jacquard/tile"
)

// Short forms for what is written out.
var (
	ret, jump, branch, turn = sample.Ret, sample.Jump, sample.Branch, sample.Switch
	con, two, load, store   = sample.Const, sample.Two, sample.Load, sample.Store
	block, function         = sample.Block, sample.Func
)

// The patterns' names, as the document numbers them.
const names = "li liw add sub mul and or xor shl shr sar eq lt ltu div addi subi andi shli shri sari madd ld lda ldx ldl st sta stx stl call mulw bnz beq blt bltu jt"

// TestNames: how many patterns there are, and their names (P6.1).
func TestNames(t *testing.T) {
	if n := tile.Patterns(); n != 37 {
		t.Errorf("%d patterns", n)
	}
	for n, want := range strings.Fields(names) {
		if got := tile.Name(n + 1); got != want || lines[n][0] != want {
			t.Errorf("%d: %q, not %q", n+1, got, want)
		}
	}
	for _, n := range []int{0, -1, 38, 39, -37, math.MinInt, math.MaxInt, 1 << 32, 1<<32 + 1} {
		if got := tile.Name(n); got != "" {
			t.Errorf("%d: %q", n, got)
		}
	}
}

// asked is what the program tells of a pattern at a place.
func asked(f api.Func, block, place, pat, t int) (told, bool) {
	var x told
	x.takes, x.inner, x.ok = tile.Match(f, block, place, pat)
	code, end, ok := tile.Emit(f, block, place, pat, t)
	x.code, x.end = code, end
	return x, ok == x.ok
}

// plain is what is told, with rows without items nil.
func plain(x told) told {
	x.takes, x.inner, x.code, x.end.To = sample.Own(x.takes), sample.Own(x.inner), sample.Own(x.code), sample.Own(x.end.To)
	for n := range x.code {
		x.code[n].Args = sample.Own(x.code[n].Args)
	}
	return x
}

// alike tells whether two that are told are the same in all, be rows without items nil or empty.
func alike(a, b told) bool {
	return reflect.DeepEqual(plain(a), plain(b))
}

// holdAt holds what is told of all patterns at a place against what the catalogue's words say; it counts those that fit.
func holdAt(t *testing.T, f api.Func, block, place int, fits []int) {
	t.Helper()
	temps := []int{77, 0, -5, math.MaxInt, math.MinInt}
	for pat := -1; pat < 40; pat++ {
		temp := temps[(place+pat+2)%len(temps)]
		want := second(f, block, place, pat, temp)
		if want.ok {
			fits[pat]++
		}
		got, same := asked(f, block, place, pat, temp)
		if pat == 0 {
			// It is a term's that needs no tile, and has an end all the same.
			same, got.end = true, api.End{}
		}
		if !same || !alike(got, want) {
			t.Fatalf("%v: %d at %d, %d: %v %v, not %v", f, pat, block, place, same, got, want)
		}
	}
}

// TestSecond: all patterns at all places of functions of all kinds (P6.2, P6.3).
func TestSecond(t *testing.T) {
	fits := make([]int, 40)
	for _, f := range sample.Folded(3, 2000) {
		if !check.Right(f) {
			t.Fatalf("%v may not be", f)
		}
		for b := -1; b <= len(f.Blocks); b++ {
			places := 0
			if b >= 0 && b < len(f.Blocks) {
				places = len(f.Blocks[b].Ins) + 1
			}
			for place := -1; place <= places; place++ {
				holdAt(t, f, b, place, fits)
			}
		}
	}
	for pat := 1; pat <= 37; pat++ {
		if fits[pat] < 50 {
			t.Errorf("%s: fits only %d times", tile.Name(pat), fits[pat])
		}
	}
}

// fitting are the names of the patterns that fit a place.
func fitting(f api.Func, block, place int) string {
	var l []string
	for pat := 1; pat <= 37; pat++ {
		if _, _, ok := tile.Match(f, block, place, pat); ok {
			l = append(l, tile.Name(pat))
		}
	}
	return strings.Join(l, " ")
}

// holdFits holds which patterns fit a place of the first block against what is written out.
func holdFits(t *testing.T, name string, f api.Func, place int, want string) {
	t.Helper()
	if e, b, p := check.Func(f); e != api.OK {
		t.Fatalf("%s: it may not be: %v, %d, %d", name, e, b, p)
	}
	if got := fitting(f, 0, place); got != want {
		t.Errorf("%s: %q, not %q", name, got, want)
	}
}

// TestExample: the document's (P6.2, P6.3).
func TestExample(t *testing.T) {
	f := function(2, block(ret(3), con(2, 5), two(api.Add, 3, 1, 2)))
	holdFits(t, "the example", f, 1, "add addi")
	takes, inner, _ := tile.Match(f, 0, 1, 3)
	if !slices.Equal(takes, []int{1, 2}) || len(inner) > 0 {
		t.Errorf("add takes %v, inner %v", takes, inner)
	}
	takes, inner, _ = tile.Match(f, 0, 1, 16)
	if !slices.Equal(takes, []int{1}) || !slices.Equal(inner, []int{2}) {
		t.Errorf("addi takes %v, inner %v", takes, inner)
	}
}

// TestNumbers: from which number to which patterns of a Const fit, and what is laid of it (P6.2, P6.3).
func TestNumbers(t *testing.T) {
	always := " add sub mul and or xor shl shr sar liw ldl stl "
	for _, x := range []struct {
		op, pat, mach int
		from, to      int32
	}{
		{api.Const, 1, api.MLi, -32768, 32767},
		{api.Const, 2, api.MLiw, math.MinInt32, math.MaxInt32},
		{api.Add, 16, api.MAddI, -128, 127},
		{api.Sub, 17, api.MAddI, -127, 128},
		{api.And, 18, api.MAndI, -128, 127},
		{api.Shl, 19, api.MShlI, 0, 31},
		{api.Shr, 20, api.MShrI, 0, 31},
		{api.Sar, 21, api.MSarI, 0, 31},
	} {
		for _, k := range []int32{x.from, x.to, x.from - 1, x.to + 1, x.from + 1, x.to - 1, 0, math.MinInt32, math.MaxInt32} {
			f, place := function(1, block(ret(2), con(1, k), two(x.op, 2, 0, 1))), 1
			want := api.Mach{Op: x.mach, D: 2, A: 0, Imm: k}
			switch x.op {
			case api.Const:
				place, want.D = 0, 1
			case api.Sub:
				want.Imm = -k
			}
			if x.op == api.Const {
				f = function(1, block(ret(1), con(1, k)))
			}
			code, _, ok := tile.Emit(f, 0, place, x.pat, 9)
			fits := x.from <= k && k <= x.to
			if ok != fits || ok && !reflect.DeepEqual(code, []api.Mach{want}) || !ok && code != nil {
				t.Errorf("%s of %d: %v %v", tile.Name(x.pat), k, ok, code)
			}
			for _, name := range strings.Fields(fitting(f, 0, place)) {
				if name != tile.Name(x.pat) && !(name == "li" && -32768 <= k && k <= 32767) && !strings.Contains(always, " "+name+" ") {
					t.Errorf("%s of %d: so does %s", tile.Name(x.pat), k, name)
				}
			}
		}
	}
}

// TestAddresses: from which number to which patterns of a Load, or a Store, fit (P6.2): K and I together do not go round.
func TestAddresses(t *testing.T) {
	const low, high = math.MinInt32, math.MaxInt32
	for _, x := range []struct {
		k, i int32
		want string // of a Load: that of a Store has st for ld
	}{
		{0, 0, "ld lda ldx ldl"},
		{5, 0, "ld lda ldx ldl"},
		{-1, 0, "ld ldx ldl"},
		{255, 0, "ld lda ldx ldl"},
		{256, 0, "ld ldx ldl"},
		{0, 1, "ld lda ldl"},
		{0, 255, "ld lda ldl"},
		{0, 256, "ldl"},
		{-1, 256, "lda ldl"},
		{-1, 257, "ldl"},
		{1, -1, "lda ldl"},
		{0, -1, "ldl"},
		{255, 1, "ld ldl"},
		{-255, 255, "ld lda ldl"},
		{-256, 255, "ld ldl"},
		{high, -high, "lda ldl"},
		{-high, high, "lda ldl"},
		{low, high, "ldl"},
		{low, low, "ldl"},
		{high, high, "ldl"},
		{high, low, "ldl"},
		{low, 0, "ld ldx ldl"},
		{0, low, "ldl"},
		{low + 256, high, "lda ldl"},
		{low + 257, high, "ldl"},
	} {
		f := function(2, block(ret(4), con(2, x.k), two(api.Add, 3, 0, 2), load(4, 3, x.i)))
		holdFits(t, "load", f, 2, x.want)
		f = function(2, block(ret(), con(2, x.k), two(api.Add, 3, 0, 2), store(3, 1, x.i)))
		holdFits(t, "store", f, 2, strings.ReplaceAll(x.want, "ld", "st"))
	}
}

// TestInner: which operands may be inner, and which not (P6.2).
func TestInner(t *testing.T) {
	five := con(2, 5)
	for _, x := range []struct {
		name  string
		f     api.Func
		place int
		want  string
	}{
		{"a Const ahead of the value", function(2, block(ret(3), five, two(api.Add, 3, 2, 1))), 1, "add"},
		{"a Const that is an operand twice", function(2, block(ret(3), five, two(api.Add, 3, 2, 2))), 1, "add"},
		{"a Const that is returned, too", function(2, block(ret(2), five, two(api.Add, 3, 1, 2))), 1, "add"},
		{"a Const of two Subs", function(2, block(ret(), five, two(api.Sub, 3, 1, 2), two(api.Sub, 4, 1, 2))), 2, "sub"},
		{"a Const that a Load takes", function(2, block(ret(), five, load(3, 2, 0))), 1, "ld ldl"},
		{"a parameter", function(2, block(ret(3), five, two(api.Add, 3, 2, 0))), 1, "add"},
		{"a Sub's Const", function(2, block(ret(3), five, two(api.Sub, 3, 1, 2))), 1, "sub subi"},
		{"a Const taken from", function(2, block(ret(3), five, two(api.Sub, 3, 2, 1))), 1, "sub"},
		{"a Mul's Const", function(2, block(ret(3), five, two(api.Mul, 3, 1, 2))), 1, "mul"},
		{"an Or's Const", function(2, block(ret(3), five, two(api.Or, 3, 1, 2))), 1, "or"},
		{"a Xor's Const", function(2, block(ret(3), five, two(api.Xor, 3, 1, 2))), 1, "xor"},
		{"a Div's Const", function(2, block(ret(3), five, two(api.Div, 3, 1, 2))), 1, "div"},
		{"two Consts", function(2, block(ret(4), five, con(3, 6), two(api.And, 4, 2, 3))), 2, "and andi"},
		{"a Mul", function(2, block(ret(4), two(api.Mul, 3, 0, 1), two(api.Add, 4, 3, 0))), 1, "add madd"},
		{"a Mul behind", function(2, block(ret(4), two(api.Mul, 3, 0, 1), two(api.Add, 4, 0, 3))), 1, "add"},
		{"a Mul added to itself", function(2, block(ret(4), two(api.Mul, 3, 0, 1), two(api.Add, 4, 3, 3))), 1, "add"},
		{"a Mul taken from", function(2, block(ret(4), two(api.Mul, 3, 0, 1), two(api.Sub, 4, 3, 0))), 1, "sub"},
		{"two Muls", function(2, block(ret(5), two(api.Mul, 3, 0, 1), two(api.Mul, 4, 1, 1), two(api.Add, 5, 3, 4))), 2, "add madd"},
		{"a Mul and a Const", function(2, block(ret(4), five, two(api.Mul, 3, 0, 1), two(api.Add, 4, 3, 2))), 2, "add addi madd"},
		{"a Mulw", function(2, block(ret(5), api.Ins{Op: api.Mulw, Dst: 3, Two: 4, Args: []int{0, 1}}, two(api.Add, 5, 3, 0))), 1, "add"},
		{"a Sub as an address", function(2, block(ret(4), two(api.Sub, 3, 0, 1), load(4, 3, 0))), 1, "ld ldl"},
		{"an Add without a Const", function(2, block(ret(4), two(api.Add, 3, 0, 1), load(4, 3, 0))), 1, "ld ldx ldl"},
		{"an Add that is stored, too", function(2, block(ret(), two(api.Add, 3, 0, 1), store(3, 3, 0))), 1, "st stl"},
		{"an Add that is stored", function(2, block(ret(), two(api.Add, 3, 0, 1), store(0, 3, 0))), 1, "st stl"},
		{"an Add of a Const ahead", function(2, block(ret(4), five, two(api.Add, 3, 2, 1), load(4, 3, 0))), 2, "ld ldx ldl"},
		{"an Add of a Const of two", function(2, block(ret(2), five, two(api.Add, 3, 1, 2), load(4, 3, 0))), 2, "ld ldx ldl"},
		{"a Call", function(2, block(ret(), api.Ins{Op: api.Call, Dst: 2, Args: []int{0, 1, 1, 0}})), 0, "call"},
		{"a Mulw itself", function(2, block(ret(), api.Ins{Op: api.Mulw, Dst: 3, Two: 4, Args: []int{0, 1}})), 0, "mulw"},
		{"a Ret", function(2, block(ret(0))), 0, ""},
		{"a Trap", function(2, block(api.Term{Kind: api.Trap})), 0, ""},
		{"a Jump", function(2, block(jump(1)), block(ret())), 0, ""},
		{"a Branch of a parameter", function(2, block(branch(0, 1, 1)), block(ret())), 0, "bnz"},
		{"a Branch of Eq", function(2, block(branch(3, 1, 1), two(api.Eq, 3, 0, 1)), block(ret())), 1, "bnz beq"},
		{"a Branch of Lt", function(2, block(branch(3, 1, 1), two(api.Lt, 3, 0, 1)), block(ret())), 1, "bnz blt"},
		{"a Branch of Ltu", function(2, block(branch(3, 1, 1), two(api.Ltu, 3, 0, 1)), block(ret())), 1, "bnz bltu"},
		{"a Branch of Sub", function(2, block(branch(3, 1, 1), two(api.Sub, 3, 0, 1)), block(ret())), 1, "bnz"},
		{"a Branch of a Const", function(2, block(branch(2, 1, 1), five), block(ret())), 1, "bnz"},
		{"a Branch of Lt that is returned, too", function(2, block(branch(3, 1, 1), two(api.Lt, 3, 0, 1)), block(ret(3))), 1, "bnz"},
		{"a Switch of Lt", function(2, block(turn(3, 1, 1), two(api.Lt, 3, 0, 1)), block(ret())), 1, "jt"},
	} {
		holdFits(t, x.name, x.f, x.place, x.want)
	}
	f := function(2, block(jump(1), five), block(ret(3), two(api.Add, 3, 1, 2)))
	if got := fitting(f, 1, 0); got != "add" {
		t.Errorf("a Const of another block: %q", got)
	}
	f = function(2, block(jump(1)), block(branch(0, 1, 2), five, two(api.Add, 3, 1, 2)), block(ret(3)))
	f.Blocks[1].Phis = []api.Phi{{Dst: 7, In: []api.In{{From: 0, Val: 0}, {From: 1, Val: 2}}}}
	if got := fitting(f, 1, 1); got != "add" || !check.Right(f) {
		t.Errorf("a Const that a phi takes: %q", got)
	}
}

// TestCode: the machine code of each pattern, written out (P6.3).
func TestCode(t *testing.T) {
	f := function(2, block(turn(0, 1, 1),
		con(2, -7), two(api.Add, 3, 0, 2), load(4, 3, 9),
		two(api.Add, 5, 0, 1), load(6, 5, 0), load(7, 1, -4),
		con(8, 100), two(api.Add, 9, 1, 8), store(9, 0, 155),
		two(api.Add, 10, 0, 1), store(10, 1, 0), store(1, 0, 1<<20),
		api.Ins{Op: api.Call, Dst: 11, Two: 5, Args: []int{1, 0, 6}, Imm: -5},
		api.Ins{Op: api.Mulw, Dst: 12, Two: 13, Args: []int{0, 1}, Imm: 3},
		two(api.Mul, 14, 0, 1), two(api.Add, 15, 14, 7),
		api.Ins{Op: api.Call, Dst: 16},
		load(17, 1, 255), store(1, 17, 254), two(api.Div, 18, 12, 13)),
		block(ret()))
	for _, x := range []struct {
		place, pat   int
		takes, inner []int
		code         []api.Mach
	}{
		{2, 24, []int{0}, []int{3, 2}, []api.Mach{{Op: api.MLd, D: 4, A: 0, Imm: 2}}},
		{4, 25, []int{0, 1}, []int{5}, []api.Mach{{Op: api.MLdX, D: 6, A: 0, B: 1}}},
		{5, 26, []int{1}, nil, []api.Mach{{Op: api.MLiw, D: 77, Imm: -4}, {Op: api.MLdX, D: 7, A: 1, B: 77}}},
		{8, 28, []int{1, 0}, []int{9, 8}, []api.Mach{{Op: api.MSt, A: 1, B: 0, Imm: 255}}},
		{10, 29, []int{0, 1, 1}, []int{10}, []api.Mach{{Op: api.MStX, A: 0, B: 1, C: 1}}},
		{11, 30, []int{1, 0}, nil, []api.Mach{{Op: api.MLiw, D: 77, Imm: 1 << 20}, {Op: api.MStX, A: 1, B: 77, C: 0}}},
		{12, 31, []int{1, 0, 6}, nil, []api.Mach{{Op: api.MCall, D: 11, Imm: -5, Args: []int{1, 0, 6}}}},
		{13, 32, []int{0, 1}, nil, []api.Mach{{Op: api.MMulw, D: 12, E: 13, A: 0, B: 1}}},
		{15, 22, []int{0, 1, 7}, []int{14}, []api.Mach{{Op: api.MMadd, D: 15, A: 0, B: 1, C: 7}}},
		{16, 31, nil, nil, []api.Mach{{Op: api.MCall, D: 16}}},
		{17, 23, []int{1}, nil, []api.Mach{{Op: api.MLd, D: 17, A: 1, Imm: 255}}},
		{18, 27, []int{1, 17}, nil, []api.Mach{{Op: api.MSt, A: 1, B: 17, Imm: 254}}},
		{19, 15, []int{12, 13}, nil, []api.Mach{{Op: api.MDiv, D: 18, A: 12, B: 13}}},
	} {
		got, same := asked(f, 0, x.place, x.pat, 77)
		if want := (told{takes: x.takes, inner: x.inner, code: x.code, ok: true}); !same || !alike(got, want) {
			t.Errorf("%s: %v, not %v", tile.Name(x.pat), got, want)
		}
	}
}

// TestEnds: the ends of terms, with patterns and without (P6.3).
func TestEnds(t *testing.T) {
	less := two(api.Lt, 2, 1, 0)
	with := func(t api.Term, imm int32, l ...api.Ins) api.Func {
		t.Imm = imm
		return function(2, block(t, l...), block(ret()), block(ret()))
	}
	for _, x := range []struct {
		name       string
		f          api.Func
		place, pat int
		want       api.End
	}{
		{"jump", function(2, block(api.Term{Kind: api.Jump, To: []int{1}, Imm: 5}), block(ret())), 0, 0, api.End{Op: api.EJ, To: []int{1}}},
		{"ret", function(2, block(api.Term{Kind: api.Ret, Args: []int{1}, Imm: 5})), 0, 0, api.End{Op: api.ERet, A: 1}},
		{"ret of 0", function(2, block(ret(0))), 0, 0, api.End{Op: api.ERet}},
		{"ret of none", function(2, block(ret())), 0, 0, api.End{Op: api.ERet, A: -1}},
		{"ret of an empty row", function(2, block(api.Term{Kind: api.Ret, Args: []int{}, To: []int{}})), 0, 0, api.End{Op: api.ERet, A: -1}},
		{"trap", function(2, block(api.Term{Kind: api.Trap, Imm: -9})), 0, 0, api.End{Op: api.ETrap, Imm: -9}},
		{"bnz", with(branch(1, 2, 1), 5), 0, 33, api.End{Op: api.EBnz, A: 1, To: []int{2, 1}}},
		{"beq", with(branch(2, 2, 1), 5, two(api.Eq, 2, 1, 0)), 1, 34, api.End{Op: api.EBeq, A: 1, To: []int{2, 1}}},
		{"blt", with(branch(2, 2, 1), 5, less), 1, 35, api.End{Op: api.EBlt, A: 1, To: []int{2, 1}}},
		{"bltu", with(branch(2, 1, 2), 5, two(api.Ltu, 2, 0, 1)), 1, 36, api.End{Op: api.EBltu, B: 1, To: []int{1, 2}}},
		{"jt", with(turn(1, 2, 1, 2), 5), 0, 37, api.End{Op: api.EJt, A: 1, To: []int{2, 1, 2}}},
	} {
		code, got, ok := tile.Emit(x.f, 0, x.place, x.pat, 77)
		got.To, x.want.To = sample.Own(got.To), sample.Own(x.want.To)
		if len(code) > 0 || !ok || !reflect.DeepEqual(got, x.want) {
			t.Errorf("%s: %v %v %v, not %v", x.name, code, got, ok, x.want)
		}
		if _, _, ok := tile.Match(x.f, 0, x.place, x.pat); ok != (x.pat != 0) {
			t.Errorf("%s: Match tells %v", x.name, ok)
		}
	}
	for _, f := range []api.Func{with(branch(1, 2, 1), 0), with(turn(1, 2, 1), 0), with(branch(2, 1, 2), 0, less)} {
		for place := range len(f.Blocks[0].Ins) + 1 {
			if code, end, ok := tile.Emit(f, 0, place, 0, 77); ok || code != nil || !reflect.DeepEqual(end, api.End{}) {
				t.Errorf("0 fits %v at %d: %v %v", f, place, code, end)
			}
		}
	}
}

// holdNone holds that no pattern fits any place of a function.
func holdNone(t *testing.T, name string, f api.Func) {
	t.Helper()
	for b := -1; b <= min(len(f.Blocks), 4); b++ {
		for place := -1; place < 6; place++ {
			for pat := -1; pat < 39; pat++ {
				if x, same := asked(f, b, place, pat, 5); !same || !reflect.DeepEqual(x, told{}) {
					t.Errorf("%s: %d at %d, %d: %v", name, pat, b, place, x)
				}
			}
		}
	}
}

// TestWrong: nothing fits a function that may not be (P6.2, P6.3).
func TestWrong(t *testing.T) {
	for name, f := range wrong() {
		holdNone(t, name, f)
	}
}

// wrong are functions that may not be, many of them with places that look as if patterns fitted.
func wrong() map[string]api.Func {
	fine := block(ret(3), con(2, 5), two(api.Add, 3, 0, 2))
	return map[string]api.Func{
		"nothing":               {},
		"parameters":            function(5, fine),
		"parameters below 0":    function(-1, fine),
		"not reached":           function(1, fine, block(ret())),
		"an operand too few":    function(1, block(ret(), con(2, 5), api.Ins{Op: api.Add, Dst: 3, Args: []int{0}})),
		"no operands":           function(1, block(ret(), api.Ins{Op: api.Sub, Dst: 3}, api.Ins{Op: api.Load, Dst: 4}, api.Ins{Op: api.Store})),
		"an operand too many":   function(1, block(ret(), con(2, 5), api.Ins{Op: api.Add, Dst: 3, Args: []int{0, 2, 2}})),
		"calls with five":       function(1, block(ret(), api.Ins{Op: api.Call, Dst: 3, Args: []int{0, 0, 0, 0, 0}})),
		"operations":            function(1, block(ret(), api.Ins{}, api.Ins{Op: 19}, api.Ins{Op: -1})),
		"a term without a kind": function(1, block(api.Term{}, con(2, 5))),
		"a kind":                function(1, block(api.Term{Kind: 6}, con(2, 5))),
		"a Branch of nothing":   function(1, block(api.Term{Kind: api.Branch, To: []int{1, 1}}), block(ret())),
		"a Switch of nothing":   function(1, block(api.Term{Kind: api.Switch, To: []int{1, 1}}), block(ret())),
		"a Ret of two":          function(1, block(ret(0, 0))),
		"a Jump nowhere":        function(1, block(api.Term{Kind: api.Jump})),
		"a Jump to block 0":     function(1, block(jump(0))),
		"an operand not made":   function(1, block(ret(), two(api.Add, 3, 0, 9))),
		"an operand behind":     function(1, block(ret(), two(api.Add, 3, 0, 2), con(2, 5))),
		"made twice":            function(1, block(ret(3), con(2, 5), con(2, 6), two(api.Add, 3, 0, 2))),
		"a value above":         function(1, block(ret(), con(8192, 5), two(api.Add, 3, 0, 8192))),
		"a value below":         function(1, block(ret(), con(-3, 5), two(api.Add, 3, 0, -3))),
		"too many":              function(1, block(ret(), make([]api.Ins, 4096)...)),
		"too many blocks":       function(1, make([]api.Block, 513)...),
		"a wrong phi elsewhere": function(1, block(jump(1), con(2, 5)), api.Block{Phis: []api.Phi{{Dst: 3}}, Term: ret()}),
	}
}

// TestPlaces: nothing fits where there is no block, or no place, nor does what is no pattern (P6.2, P6.3).
func TestPlaces(t *testing.T) {
	f := function(2, block(branch(3, 1, 1), con(2, 5), two(api.Lt, 3, 1, 2)), block(ret()))
	odd := []int{-1, math.MinInt, math.MaxInt, 38, 1 << 32}
	for _, n := range odd {
		for pat := range 38 {
			for _, at := range [][2]int{{n, 0}, {0, n}, {n, n}, {2, 0}, {0, 3}, {1, 1}} {
				if x, same := asked(f, at[0], at[1], pat, 5); !same || !reflect.DeepEqual(x, told{}) {
					t.Errorf("%d at %v: %v", pat, at, x)
				}
			}
		}
		for place := range 3 {
			if x, same := asked(f, 0, place, n, 5); !same || !reflect.DeepEqual(x, told{}) {
				t.Errorf("%d at %d: %v", n, place, x)
			}
		}
	}
}

// TestSpoilt: functions of all kinds with something wrong (P6.2, P6.3, P6.5): nothing panics.
func TestSpoilt(t *testing.T) {
	next, count := sample.Numbers(11), 0
	for _, f := range sample.Folded(13, 1200) {
		f = sample.Spoilt(next, f)
		if check.Right(f) {
			continue
		}
		count++
		holdNone(t, "spoilt", f)
		if e, b, p := tile.Covers(tile.All(), f); e != api.ErrArg || b != 0 || p != 0 {
			t.Errorf("%v: %v %d %d", f, e, b, p)
		}
	}
	if count < 500 {
		t.Errorf("only %d that may not be", count)
	}
}

// everything is all that is told of a function, with every pattern at every place.
func everything(f api.Func) []told {
	var l []told
	for b := range f.Blocks {
		for place := range len(f.Blocks[b].Ins) + 1 {
			for pat := range 38 {
				x, _ := asked(f, b, place, pat, 999)
				l = append(l, x)
			}
		}
	}
	return l
}

// overwrite writes over an answer, and behind each row of it.
func overwrite(x told) {
	for _, row := range [][]int{x.takes, x.inner, x.end.To} {
		clear(append(row, 98)[:len(row)])
	}
	for _, m := range x.code {
		clear(append(m.Args, 98)[:len(m.Args)])
	}
	clear(append(x.code, api.Mach{Op: 98})[:len(x.code)])
}

// TestKept: what is handed in stays as it was, and is not kept; what is told is the caller's, and the same each time (R1, R3, R4).
func TestKept(t *testing.T) {
	for _, x := range sample.Folded(47, 150) {
		f := sample.Copied(x)
		first, second := everything(f), everything(f)
		var want []told
		for n := range first {
			want = append(want, plain(first[n]))
			overwrite(second[n])
		}
		if !reflect.DeepEqual(f, sample.Copied(x)) {
			t.Fatalf("%v: changed to %v", x, f)
		}
		sample.Scribble(f)
		for n, again := range everything(x) {
			if !alike(first[n], want[n]) || !alike(again, want[n]) {
				t.Fatalf("%v: %v, then %v, not %v", x, first[n], again, want[n])
			}
		}
	}
}

// TestRows: no two rows of one answer share anything (R1).
func TestRows(t *testing.T) {
	for _, f := range sample.Folded(53, 200) {
		for _, x := range everything(f) {
			want := plain(x)
			_, _, _, _ = append(x.takes, 98), append(x.inner, 97), append(x.code, api.Mach{Op: 96}), append(x.end.To, 95)
			if !alike(x, want) {
				t.Fatalf("%v: %v, not %v", f, x, want)
			}
			inner, code, to := sample.Own(x.inner), plain(x).code, sample.Own(x.end.To)
			clear(x.takes)
			if !slices.Equal(x.inner, inner) || !reflect.DeepEqual(plain(x).code, code) || !slices.Equal(x.end.To, to) {
				t.Fatalf("%v: rows of %v share something", f, want)
			}
		}
	}
}
