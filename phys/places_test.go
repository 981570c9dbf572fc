package phys_test

import (
	"math"
	"reflect"
	"slices"
	"testing"

	"jacquard/api"
	"jacquard/mach"
	"jacquard/phys"
	"jacquard/sample"
)

// names holds the places of an instruction against what is written out.
func names(t *testing.T, i api.Mach, takes, makes, spoils []int) {
	t.Helper()
	if got := phys.Takes(i); !slices.Equal(got, takes) {
		t.Errorf("%v takes %v, not %v", i, got, takes)
	}
	if got := phys.Makes(i); !slices.Equal(got, makes) {
		t.Errorf("%v makes %v, not %v", i, got, makes)
	}
	if got := phys.Spoils(i); !slices.Equal(got, spoils) {
		t.Errorf("%v spoils %v, not %v", i, got, spoils)
	}
}

// TestPlaces: what instructions of any operation take, make and spoil, and ends need, in order, as it is named, whatever numbers these are (P12.4).
func TestPlaces(t *testing.T) {
	for op := -3; op <= 52; op++ {
		for _, l := range [][5]int{{1, 2, 3, 4, 5}, {7, 7, 7, 7, 7}, {-1, math.MinInt, 8192, math.MaxInt, 0}, {16, 17, 18, 19, 20}} {
			for _, n := range []int32{math.MinInt32, -17, -16, -1, 0, 1, 16383, 16384, math.MaxInt32} {
				i := api.Mach{Op: op, D: l[0], E: l[1], A: l[2], B: l[3], C: l[4], Imm: n, Args: row(8, 8, -8, 9000, 1, 0)[:(7+op)%7]}
				takes, makes, spoils := places(i)
				names(t, i, takes, makes, spoils)
				if op != api.MSld && !slices.Equal(takes, mach.Takes(i)) || op != api.MSst && !slices.Equal(makes, mach.Makes(i)) {
					t.Errorf("%v: not as of layer 7", i)
				}
			}
			for _, a := range row(l[2], -1, 0, math.MinInt, math.MaxInt) {
				e := api.End{Op: op, A: a, B: l[3], Imm: 9, To: row(1, 2)}
				if got, want := phys.Needs(e), sample.Needed(e); !slices.Equal(got, want) || !slices.Equal(got, mach.Needs(e)) {
					t.Errorf("%v needs %v, not %v", e, got, want)
				}
			}
		}
	}
	for _, op := range far {
		names(t, api.Mach{Op: op, D: 1, E: 2, A: 3, B: 4, Args: row(5)}, nil, nil, nil)
		if l := phys.Needs(api.End{Op: op, A: 1, B: 2}); len(l) > 0 {
			t.Errorf("%d needs %v", op, l)
		}
	}
}

// TestPlacesPlain: some that are written out (P12.4).
func TestPlacesPlain(t *testing.T) {
	names(t, swap(5, 2), row(5, 2), row(5, 2), nil)
	names(t, swap(5, 5), row(5, 5), row(5, 5), nil)
	names(t, sld(3, 0), row(16), row(3), nil)
	names(t, sld(3, 16383), row(16399), row(3), nil)
	names(t, sld(3, -1), row(15), row(3), nil)
	names(t, sld(3, math.MaxInt32), row(16+math.MaxInt32), row(3), nil)
	names(t, sst(3, 0), row(3), row(16), nil)
	names(t, sst(3, 7), row(3), row(23), nil)
	names(t, sst(3, math.MinInt32), row(3), row(16+math.MinInt32), nil)
	names(t, call(7, 0), nil, row(0), row(1, 2, 3))
	names(t, call(7, 3), row(0, 1, 2), row(0), row(1, 2, 3))
	names(t, api.Mach{Op: api.MCall, D: 9, Args: row(4, 4)}, row(4, 4), row(9), row(1, 2, 3))
	names(t, mulw(4, 3), row(4, 3), row(0, 1), nil)
	names(t, api.Mach{Op: api.MMulw, D: 7, E: 7, A: 1, B: 1}, row(1, 1), row(7, 7), nil)
	names(t, abc(api.MStX, 9, 1, 2, 3), row(1, 2, 3), nil, nil)
	names(t, abc(api.MMadd, 9, 1, 1, 3), row(1, 1, 3), row(9), nil)
	names(t, li(3, 7), nil, row(3), nil)
	for want, l := range [][]api.End{{jump(1), trap(1), ret(-1), ret(math.MinInt), {}}, {ret(0), ret(3), bnz(5, 1, 1), jt(-4)}, {end(api.EBeq, 1, 1, 2, 2), end(api.EBlt, 3, 4, 2, 2), end(api.EBltu, -3, 4, 2, 2)}} {
		for _, e := range l {
			if got := phys.Needs(e); !slices.Equal(got, row(e.A, e.B)[:want]) {
				t.Errorf("%v needs %v", e, got)
			}
		}
	}
}

// TestKeptRows: places are rows of the caller's own; what they are told of stays as it was (R1).
func TestKeptRows(t *testing.T) {
	told := func(i api.Mach, e api.End) []any {
		return []any{phys.Takes(i), phys.Makes(i), phys.Spoils(i), phys.Needs(e)}
	}
	for op := range 33 {
		i := api.Mach{Op: op, D: 1, E: 2, A: 3, B: 4, C: 5, Imm: 6, Args: row(6, 7, 8)}
		e := api.End{Op: op, A: 3, B: 4, To: row(5, 6)}
		first := told(i, e)
		sample.ScribbleRows(told(i, e))
		if !reflect.DeepEqual(told(i, e), first) || !slices.Equal(i.Args, row(6, 7, 8)) || !slices.Equal(e.To, row(5, 6)) {
			t.Errorf("%d: rows are shared", op)
		}
		want, _, _ := places(api.Mach{Op: op, D: 1, E: 2, A: 3, B: 4, C: 5, Imm: 6, Args: row(6, 7, 8)})
		phys.Ins(i, 16, 9)
		phys.End(e, 16, 9)
		if !slices.Equal(i.Args, row(6, 7, 8)) || !slices.Equal(e.To, row(5, 6)) {
			t.Errorf("%d: changed", op)
		}
		clear(i.Args)
		if got := first[0].([]int); !slices.Equal(got, want) {
			t.Errorf("%d: operands are shared: %v", op, got)
		}
	}
}
