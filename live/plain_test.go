package live_test

import (
	"maps"
	"math"
	"slices"
	"testing"

	"jacquard/api"
	"jacquard/live"
	"jacquard/mach"
	"jacquard/sample"
)

// Short forms for what is written out.
var (
	ret, trap, jump, bnz, end, jt = sample.ERet, sample.ETrap, sample.EJ, sample.EBnz, sample.ETwo, sample.EJt
	li, abc, imm, call            = sample.MLi, sample.MThree, sample.MImm, sample.MCall
	block, code, phi, with        = sample.MBlock, sample.MFunc, sample.Phi, sample.With
)

// row is one of numbers, rows are several.
func row(l ...int) []int        { return l }
func rows(all ...[]int) [][]int { return all }

// ranges are some: each a row of where they begin, and where they end.
func ranges(all map[int][]int) map[int][]api.Range {
	own := map[int][]api.Range{}
	for r, row := range all {
		for n := 0; n < len(row); n += 2 {
			own[r] = append(own[r], api.Range{From: row[n], To: row[n+1]})
		}
	}
	return own
}

// apart are pairs of registers, of those that have ranges, that have no place in common.
func apart(w told) [][2]int {
	var pairs [][2]int
	for _, a := range slices.Sorted(maps.Keys(w.ranges)) {
		for _, b := range slices.Sorted(maps.Keys(w.ranges)) {
			if a < b && !w.together[[2]int{a, b}] {
				pairs = append(pairs, [2]int{a, b})
			}
			if w.together[[2]int{a, b}] != w.together[[2]int{b, a}] || !w.together[[2]int{a, a}] {
				pairs = append(pairs, [2]int{b, a})
			}
		}
	}
	return pairs
}

// plain is machine code, and what is told of it.
type plain struct {
	name    string
	m       api.MFunc
	in, out [][]int
	at      [][]int
	ranges  map[int][]int
	apart   [][2]int
	most    int
}

// straight are blocks that do not come about again.
func straight() []plain {
	mulw := api.Mach{Op: api.MMulw, D: 2, E: 3, A: 0, B: 1}
	spilled := api.Mach{Op: api.MSt, A: 0, B: 1, C: 2, D: 3, E: 4, Imm: 5, Args: row(6, 7)}
	return []plain{
		{"the example", code(2, block(ret(3), abc(api.MAdd, 2, 0, 1, 0), abc(api.MAdd, 3, 2, 0, 0))), rows(row(0, 1)), rows(nil), rows(row(0, 1), row(0, 2), row(3)), map[int][]int{0: {0, 2}, 1: {0, 1}, 2: {1, 2}, 3: {2, 3}}, [][2]int{{0, 3}, {1, 2}, {1, 3}, {2, 3}}, 2},
		{"nothing", code(0, block(trap(7))), rows(nil), rows(nil), rows(nil), nil, nil, 0},
		{"nothing returned", code(0, block(ret(math.MinInt))), rows(nil), rows(nil), rows(nil), nil, nil, 0},
		{"parameters that nothing takes", code(4, block(ret(-1), li(9, 1))), rows(nil), rows(nil), rows(nil, nil), map[int][]int{0: {0, 1}, 1: {0, 1}, 2: {0, 1}, 3: {0, 1}, 9: {1, 2}}, [][2]int{{0, 9}, {1, 9}, {2, 9}, {3, 9}}, 4},
		{"a parameter, made anew", code(1, block(ret(0), li(5, 1), li(0, 2))), rows(nil), rows(nil), rows(nil, nil, row(0)), map[int][]int{0: {0, 1, 2, 3}, 5: {1, 2}}, [][2]int{{0, 5}}, 1},
		{"a parameter, made of itself", code(1, block(ret(0), imm(api.MAddI, 0, 0, 1))), rows(row(0)), rows(nil), rows(row(0), row(0)), map[int][]int{0: {0, 2}}, nil, 1},
		{"what is not set", code(1, block(ret(8191), abc(api.MAdd, 1, 64, 63, 0))), rows(row(63, 64, 8191)), rows(nil), rows(row(63, 64, 8191), row(8191)), map[int][]int{0: {0, 1}, 1: {1, 2}, 63: {0, 1}, 64: {0, 1}, 8191: {0, 2}}, [][2]int{{0, 1}, {1, 63}, {1, 64}}, 4},
		{"made twice", code(0, block(ret(1), li(1, 1), li(1, 2), li(2, 3))), rows(nil), rows(nil), rows(nil, nil, row(1), row(1)), map[int][]int{1: {1, 4}, 2: {3, 4}}, nil, 2},
		{"both halves, one of them for nothing", code(2, block(ret(3), mulw, li(4, 1))), rows(row(0, 1)), rows(nil), rows(row(0, 1), row(3), row(3)), map[int][]int{0: {0, 1}, 1: {0, 1}, 2: {1, 2}, 3: {1, 3}, 4: {2, 3}}, [][2]int{{0, 2}, {0, 3}, {0, 4}, {1, 2}, {1, 3}, {1, 4}, {2, 4}}, 2},
		{"a call", code(2, block(ret(-1), call(0, 9, 1, 1, 0, 5))), rows(row(0, 1, 5)), rows(nil), rows(row(0, 1, 5), nil), map[int][]int{0: {0, 2}, 1: {0, 1}, 5: {0, 1}}, nil, 3},
		{"fields without a meaning", code(0, block(api.End{Op: api.ETrap, A: 8, B: 9}, spilled)), rows(row(0, 1)), rows(nil), rows(row(0, 1), nil), map[int][]int{0: {0, 1}, 1: {0, 1}}, nil, 2},
		{"one that is stored at itself", code(1, block(ret(-1), abc(api.MStX, 0, 0, 0, 0))), rows(row(0)), rows(nil), rows(row(0), nil), map[int][]int{0: {0, 1}}, nil, 1},
	}
}

// ways are blocks that go on to several, and on to the same one.
func ways() []plain {
	none := block(ret(-1))
	return []plain{
		{"on one way alone", code(2, block(bnz(0, 1, 2)), block(ret(1)), none), rows(row(0, 1), row(1), nil), rows(row(1), nil, nil), rows(row(0, 1), row(1), nil), map[int][]int{0: {0, 1}, 1: {0, 2}}, nil, 2},
		{"past a block", code(2, block(bnz(0, 1, 2)), none, block(ret(1))), rows(row(0, 1), nil, row(1)), rows(row(1), nil, nil), rows(row(0, 1), nil, row(1)), map[int][]int{0: {0, 1}, 1: {0, 1, 2, 3}}, nil, 2},
		{"on a way that makes it", code(2, block(bnz(0, 1, 2)), block(jump(3), li(1, 5)), block(jump(3)), block(ret(1))), rows(row(0, 1), nil, row(1), row(1)), rows(row(1), row(1), row(1), nil), rows(row(0, 1), nil, row(1), row(1), row(1)), map[int][]int{0: {0, 1}, 1: {0, 1, 2, 5}}, nil, 2},
		{"blocks that stand one behind the other, and are not of one way", code(1, block(jump(2)), block(ret(0), li(0, 5)), block(bnz(7, 1, 1), li(7, 0))), rows(nil, nil, nil), rows(nil, nil, nil), rows(nil, nil, row(0), nil, row(7)), map[int][]int{0: {0, 1, 2, 3}, 7: {4, 5}}, [][2]int{{0, 7}}, 1},
		{"what stays in front of another block's beginning", code(0, block(jump(2), li(3, 1)), block(ret(4), li(4, 1)), block(jump(1), li(5, 1))), rows(nil, nil, nil), rows(nil, nil, nil), rows(nil, nil, nil, row(4), nil, nil), map[int][]int{3: {1, 2}, 4: {3, 4}, 5: {5, 6}}, [][2]int{{3, 4}, {3, 5}, {4, 5}}, 1},
		{"ends of two", code(0, block(end(api.EBltu, 3, 4, 1, 2)), block(end(api.EBeq, 5, 5, 2, 2)), block(end(api.EBlt, 6, 4, 3, 3)), none), rows(row(3, 4, 5, 6), row(4, 5, 6), row(4, 6), nil), rows(row(4, 5, 6), row(4, 6), nil, nil), rows(row(3, 4, 5, 6), row(4, 5, 6), row(4, 6), nil), map[int][]int{3: {0, 1}, 4: {0, 3}, 5: {0, 2}, 6: {0, 3}}, nil, 4},
		{"a table", code(1, block(jt(0, 1, 2, 1, 3)), block(ret(5)), block(ret(6)), block(jump(1))), rows(row(0, 5, 6), row(5), row(6), row(5)), rows(row(5, 6), nil, nil, row(5)), rows(row(0, 5, 6), row(5), row(6), row(5)), map[int][]int{0: {0, 1}, 5: {0, 2, 3, 4}, 6: {0, 1, 2, 3}}, nil, 3},
	}
}

// phis are blocks that have such.
func phis() []plain {
	none := block(ret(-1))
	return []plain{
		{"taken at the end of the block ahead", code(2, block(jump(1)), with(block(ret(3)), phi(3, 0, 1))), rows(row(1), row(3)), rows(row(1), nil), rows(row(1), row(3)), map[int][]int{0: {0, 1}, 1: {0, 1}, 3: {1, 2}}, [][2]int{{0, 3}, {1, 3}}, 2},
		{"made behind the end of the block ahead", code(0, block(jump(1), li(1, 4)), with(none, phi(3, 0, 1))), rows(nil, nil), rows(row(1), nil), rows(nil, row(1), nil), map[int][]int{1: {1, 2}, 3: {2, 3}}, [][2]int{{1, 3}}, 1},
		{"that nothing takes", code(1, block(jump(1)), with(block(ret(0), li(9, 1)), phi(3, 0, 0), phi(4, 0, 0))), rows(row(0), row(0)), rows(row(0), nil), rows(row(0), row(0), row(0)), map[int][]int{0: {0, 3}, 3: {1, 2}, 4: {1, 2}, 9: {2, 3}}, [][2]int{{3, 9}, {4, 9}}, 3},
		{"by where control comes from", code(3, block(bnz(0, 1, 2)), block(jump(3)), block(jump(3)), with(block(ret(5)), phi(5, 1, 1, 2, 2))), rows(row(0, 1, 2), row(1), row(2), row(5)), rows(row(1, 2), row(1), row(2), nil), rows(row(0, 1, 2), row(1), row(2), row(5)), map[int][]int{0: {0, 1}, 1: {0, 2}, 2: {0, 1, 2, 3}, 5: {3, 4}}, [][2]int{{0, 5}, {1, 5}, {2, 5}}, 3},
		{"on one of two ways", code(2, block(bnz(0, 1, 2)), none, with(block(ret(1)), phi(1, 0, 0))), rows(row(0), nil, row(1)), rows(row(0), nil, nil), rows(row(0), nil, row(1)), map[int][]int{0: {0, 1}, 1: {0, 1, 2, 3}}, nil, 2},
		{"made in one, and taken past it by the other way", code(2, block(bnz(0, 1, 2)), with(block(jump(2)), phi(1, 0, 0)), block(ret(1))), rows(row(0, 1), row(1), row(1)), rows(row(0, 1), row(1), nil), rows(row(0, 1), row(1), row(1)), map[int][]int{0: {0, 1}, 1: {0, 3}}, nil, 2},
		{"of itself", code(1, block(jump(1)), with(block(jump(1)), phi(3, 0, 3, 1, 3))), rows(row(3), row(3)), rows(row(3), row(3)), rows(row(3), row(3)), map[int][]int{0: {0, 1}, 3: {0, 2}}, nil, 2},
		{"that change about", code(2, block(jump(1)), with(block(bnz(0, 1, 2)), phi(0, 0, 0, 1, 1), phi(1, 0, 1, 1, 0)), block(ret(1))), rows(row(0, 1), row(0, 1), row(1)), rows(row(0, 1), row(0, 1), nil), rows(row(0, 1), row(0, 1), row(1)), map[int][]int{0: {0, 2}, 1: {0, 3}}, nil, 2},
		{"that pass one on", code(1, block(jump(1)), with(block(bnz(4, 1, 2)), phi(3, 0, 0, 1, 0), phi(4, 0, 0, 1, 3)), none), rows(row(0), row(0, 3, 4), nil), rows(row(0), row(0, 3), nil), rows(row(0), row(0, 3, 4), nil), map[int][]int{0: {0, 2}, 3: {1, 2}, 4: {1, 2}}, nil, 3},
		{"of one that is made anew in the block", code(0, block(jump(1), li(1, 3)), with(block(bnz(2, 1, 2), abc(api.MMov, 1, 2, 0, 0)), phi(2, 0, 1, 1, 1)), none), rows(nil, row(2), nil), rows(row(1), row(1), nil), rows(nil, row(1), row(2), row(1, 2), nil), map[int][]int{1: {1, 2, 3, 4}, 2: {2, 4}}, nil, 2},
		{"by a table to one block", code(1, block(jt(0, 1, 1, 2)), with(block(ret(7)), phi(7, 0, 5)), with(block(ret(6)), phi(6, 0, 6))), rows(row(0, 5, 6), row(7), row(6)), rows(row(5, 6), nil, nil), rows(row(0, 5, 6), row(7), row(6)), map[int][]int{0: {0, 1}, 5: {0, 1}, 6: {0, 1, 2, 3}, 7: {1, 2}}, [][2]int{{0, 7}, {5, 7}, {6, 7}}, 3},
	}
}

// rounds are blocks that come about again.
func rounds() []plain {
	none := block(ret(-1))
	count := imm(api.MAddI, 3, 2, 1)
	return []plain{
		{"counted up", code(1, block(jump(1), li(1, 0)), with(block(end(api.EBlt, 3, 0, 1, 2), count), phi(2, 0, 1, 1, 3)), block(ret(3))), rows(row(0), row(0, 2), row(3)), rows(row(0, 1), row(0, 3), nil), rows(row(0), row(0, 1), row(0, 2), row(0, 3), row(3)), map[int][]int{0: {0, 4}, 1: {1, 2}, 2: {2, 3}, 3: {3, 5}}, [][2]int{{1, 2}, {1, 3}, {2, 3}}, 2},
		{"for ever", code(2, block(jump(1)), block(jump(1), imm(api.MAddI, 0, 0, 1))), rows(row(0), row(0)), rows(row(0), row(0)), rows(row(0), row(0), row(0)), map[int][]int{0: {0, 3}, 1: {0, 1}}, nil, 2},
		{"taken ahead of being made, the time behind", code(0, block(jump(1)), block(jump(1), abc(api.MMov, 2, 1, 0, 0), li(1, 5))), rows(row(1), row(1)), rows(row(1), row(1)), rows(row(1), row(1), nil, row(1)), map[int][]int{1: {0, 2, 3, 4}, 2: {2, 3}}, [][2]int{{1, 2}}, 1},
		{"made ahead of being taken", code(0, block(jump(1)), block(jump(1), li(1, 5), abc(api.MMov, 2, 1, 0, 0))), rows(nil, nil), rows(nil, nil), rows(nil, nil, row(1), nil), map[int][]int{1: {2, 3}, 2: {3, 4}}, [][2]int{{1, 2}}, 1},
		{"taken behind it", code(1, block(jump(1), li(4, 9)), block(bnz(0, 1, 2), imm(api.MAddI, 0, 0, -1)), block(ret(4))), rows(row(0), row(0, 4), row(4)), rows(row(0, 4), row(0, 4), nil), rows(row(0), row(0, 4), row(0, 4), row(0, 4), row(4)), map[int][]int{0: {0, 4}, 4: {1, 5}}, nil, 2},
		{"one in another, with a way out of both", code(3, block(jump(3)), block(bnz(1, 1, 2)), block(bnz(2, 3, 4)), block(bnz(0, 1, 4)), none), rows(row(0, 1, 2), row(0, 1, 2), row(0, 1, 2), row(0, 1, 2), nil), rows(row(0, 1, 2), row(0, 1, 2), row(0, 1, 2), row(0, 1, 2), nil), rows(row(0, 1, 2), row(0, 1, 2), row(0, 1, 2), row(0, 1, 2), nil), map[int][]int{0: {0, 4}, 1: {0, 4}, 2: {0, 4}}, nil, 3},
		{"come into from both sides", code(3, block(bnz(0, 1, 2)), block(jump(2)), block(bnz(1, 1, 3)), block(ret(2))), rows(row(0, 1, 2), row(1, 2), row(1, 2), row(2)), rows(row(1, 2), row(1, 2), row(1, 2), nil), rows(row(0, 1, 2), row(1, 2), row(1, 2), row(2)), map[int][]int{0: {0, 1}, 1: {0, 3}, 2: {0, 4}}, nil, 3},
	}
}

// TestPlain: what is written out is told, by the program and by its words (P10.1, P10.2, P10.4).
func TestPlain(t *testing.T) {
	regs := row(0, 1, 2, 3, 4, 5, 6, 7, 8, 9, 62, 63, 64, 65, 8190, 8191)
	for _, x := range slices.Concat(straight(), ways(), phis(), rounds()) {
		if e, b, p := mach.Func(x.m); e != api.OK {
			t.Fatalf("%s: may not be: %v %d %d", x.name, e, b, p)
		}
		for n, w := range []told{byProgram(x.m, regs), second{x.m}.byWords(regs)} {
			who := []string{"", ", by the words"}[n]
			if !sameRows(w.in, x.in) || !sameRows(w.out, x.out) {
				t.Errorf("%s%s: in %v, out %v, not %v, %v", x.name, who, w.in, w.out, x.in, x.out)
			}
			if !sameRows(w.at, x.at) {
				t.Errorf("%s%s: at %v, not %v", x.name, who, w.at, x.at)
			}
			if want := ranges(x.ranges); !maps.EqualFunc(w.ranges, want, slices.Equal) {
				t.Errorf("%s%s: ranges %v, not %v", x.name, who, w.ranges, want)
			}
			if got := apart(w); !slices.Equal(got, x.apart) {
				t.Errorf("%s%s: apart %v, not %v", x.name, who, got, x.apart)
			}
			if w.most != x.most {
				t.Errorf("%s%s: most %d, not %d", x.name, who, w.most, x.most)
			}
		}
	}
}

// TestNumber: places have the numbers that are written out; others have none (P10.3).
func TestNumber(t *testing.T) {
	m := code(0, block(jump(2), li(1, 1), li(2, 2)), block(ret(-1)), with(block(jump(1), li(1, 1)), phi(5, 0, 1)))
	want := [][]int{{0, 1, 2}, {3}, {4, 5}}
	for b := -2; b < 6; b++ {
		for p := -3; p < 6; p++ {
			n := -1
			if b >= 0 && b < len(want) && p >= 0 && p < len(want[b]) {
				n = want[b][p]
			}
			if got := live.Number(m, b, p); got != n {
				t.Errorf("%d, %d: %d, not %d", b, p, got, n)
			}
			if got := live.At(m, b, p); n < 0 && len(got) > 0 {
				t.Errorf("%d, %d: %v are live", b, p, got)
			}
		}
	}
	for _, n := range far {
		for _, x := range [][2]int{{n, 0}, {0, n}, {n, n}, {2, n}, {n, -1}} {
			if live.Number(m, x[0], x[1]) != -1 || len(live.At(m, x[0], x[1])) > 0 {
				t.Errorf("%v is a place", x)
			}
		}
	}
}
