package check_test

import (
	"math"
	"slices"
	"testing"

	"jacquard/api"
	"jacquard/check"
)

// secondTop looks for the greatest value from above.
func secondTop(f api.Func) int {
	var made []int
	for _, x := range things(f) {
		made = append(made, x.makes()...)
	}
	for v := api.MaxValues - 1; v >= 0; v-- {
		if v < f.Params || slices.Contains(made, v) {
			return v + 1
		}
	}
	return 0
}

// occurs tells how often a number stands in rows.
func occurs(v int, rows ...[]int) int {
	n := 0
	for _, row := range rows {
		for _, x := range row {
			if x == v {
				n++
			}
		}
	}
	return n
}

// secondFoldable goes by the words: made once, taken once, and how.
func secondFoldable(f api.Func, val int) bool {
	all := things(f)
	made, taken := 0, 0
	for _, x := range all {
		made += occurs(val, x.makes())
		taken += occurs(val, x.takes())
	}
	if made != 1 || taken != 1 {
		return false
	}
	ops := []int{api.Const, api.Add, api.Mul, api.Eq, api.Lt, api.Ltu}
	for i, x := range all {
		if x.ins != nil && x.ins.Dst == val && slices.Contains(ops, x.ins.Op) {
			for _, y := range all[i+1:] {
				if y.block == x.block && slices.Contains(y.takes(), val) {
					return true
				}
			}
		}
	}
	return false
}

// holdValues holds what is told of values against what is reckoned a second time.
func holdValues(t *testing.T, f api.Func, values []int) {
	t.Helper()
	top, uses := check.Top(f), check.Uses(f)
	if want := secondTop(f); top != want {
		t.Fatalf("%v: Top %d, not %d", f, top, want)
	}
	if len(uses) != top {
		t.Fatalf("%v: Uses of %d, not of %d", f, len(uses), top)
	}
	var rows [][]int
	for _, x := range things(f) {
		rows = append(rows, x.takes())
	}
	for v, n := range uses {
		if want := occurs(v, rows...); n != want {
			t.Fatalf("%v: %d is used %d times, not %d", f, v, n, want)
		}
	}
	for _, v := range values {
		if got, want := check.Foldable(f, v), secondFoldable(f, v); got != want {
			t.Fatalf("%v: Foldable of %d is %v", f, v, got)
		}
	}
}

// TestValues: of functions of all kinds, whether they may be or not (P3.2, P3.3).
func TestValues(t *testing.T) {
	values := []int{-1, math.MinInt, math.MaxInt, 8191, 8192, 1 << 32}
	for v := range 45 {
		values = append(values, v)
	}
	foldable := 0
	for _, f := range samples(31, 3000) {
		holdValues(t, f, values)
		for v := range 20 {
			if check.Foldable(f, v) {
				foldable++
			}
		}
	}
	if foldable < 100 {
		t.Error("only", foldable, "foldable values")
	}
}

// TestTop: values and parameters that are written out (P3.2).
func TestTop(t *testing.T) {
	for i, x := range []struct {
		f    api.Func
		top  int
		uses []int
	}{
		{api.Func{}, 0, nil},
		{function(3), 3, []int{0, 0, 0}},
		{function(-7, block(ret(0))), 0, nil},
		{function(math.MinInt), 0, nil},
		{function(math.MaxInt), 8192, nil},
		{function(8193), 8192, nil},
		{function(8191), 8191, nil},
		{function(0, block(ret(), con(8191))), 8192, nil},
		{function(0, block(ret(), con(8192))), 0, nil},
		{function(1, block(ret(), con(math.MaxInt), con(-1))), 1, []int{0}},
		{function(2, block(ret(5, 3), con(5), op(api.Add, 3, 5, 5))), 6, []int{0, 0, 0, 1, 0, 3}},
		{function(1, block(ret(), op(api.Store, 9, 0, 0))), 1, []int{2}},
		{function(1, block(ret(), mulw(2, 4, 0, 1))), 5, []int{1, 1, 0, 0, 0}},
		{function(1, block(ret(), api.Ins{Op: api.Add, Dst: 1, Two: 4, Args: []int{0, 4}})), 2, []int{1, 0}},
		{function(1, block(ret(), op(99, 3, 2, 2, -1, 3, 4))), 4, []int{0, 0, 2, 1}},
		{function(0, with(block(api.Term{Kind: 88, Args: []int{0, 6, 7}}), phi(6, 4, 6, 4, 2, -1, -1))), 7, []int{1, 0, 1, 0, 0, 0, 2}},
	} {
		if got := check.Top(x.f); got != x.top {
			t.Errorf("%d: Top %d, not %d", i, got, x.top)
		}
		got := check.Uses(x.f)
		if len(got) != x.top || x.uses != nil && !slices.Equal(got, x.uses) {
			t.Errorf("%d: Uses %v, not %v", i, got, x.uses)
		}
	}
}

// TestFoldable: values that are written out (P3.3).
func TestFoldable(t *testing.T) {
	foldable := []int{api.Const, api.Add, api.Mul, api.Eq, api.Lt, api.Ltu}
	for o := -1; o < 22; o++ {
		i := api.Ins{Op: o, Dst: 1, Two: 2}
		want := slices.Contains(foldable, o)
		if got := check.Foldable(function(1, block(ret(1), i)), 1); got != want {
			t.Errorf("operation %d: %v", o, got)
		}
		if check.Foldable(function(1, block(ret(2), i)), 2) {
			t.Errorf("operation %d: of Two", o)
		}
	}
	for _, x := range []struct {
		name string
		f    api.Func
		want bool
	}{
		{"of an instruction", function(0, block(ret(), con(1), con(2), op(api.Load, 3, 1))), true},
		{"of an instruction just behind", function(0, block(ret(), con(1), op(api.Load, 3, 1))), true},
		{"of a Store", function(1, block(ret(), con(1), op(api.Store, 1, 0, 1))), true},
		{"of a Branch", function(1, block(branch(1, 1, 1), con(1)), block(ret())), true},
		{"of no one", function(1, block(ret(), con(1))), false},
		{"not made", function(1, block(ret(1))), false},
		{"twice of one", function(0, block(ret(), con(1), op(api.Add, 2, 1, 1))), false},
		{"of two", function(0, block(ret(1), con(1), op(api.Load, 2, 1))), false},
		{"of one here and one elsewhere", function(0, block(jump(1), con(1), op(api.Load, 2, 1)), block(ret(1))), false},
		{"of another block's instruction", function(0, block(jump(1), con(1)), block(ret(), op(api.Load, 2, 1))), false},
		{"of another block's term", function(0, block(jump(1), con(1)), block(ret(1))), false},
		{"of a phi", function(0, block(jump(1), con(1)), with(block(ret()), phi(2, 0, 1))), false},
		{"of its own block's phi", function(0, block(jump(1)), with(block(branch(2, 1, 2), con(1), con(3)), phi(2, 0, 3, 1, 1)), block(ret())), false},
		{"of an instruction and a phi", function(0, block(jump(1), con(1), op(api.Load, 3, 1)), with(block(ret()), phi(2, 0, 1))), false},
		{"of one ahead", function(0, block(ret(), op(api.Load, 2, 1), con(1))), false},
		{"of itself", function(0, block(ret(), op(api.Add, 1, 1, 0))), false},
		{"made twice", function(0, block(ret(1), con(1), con(1))), false},
		{"made by a phi, too", function(0, with(block(ret(1), con(1)), phi(1))), false},
		{"made by a phi", function(0, block(jump(1), con(3)), with(block(ret(1)), phi(1, 0, 3))), false},
		{"made as Two, too", function(1, block(ret(1), con(1), mulw(2, 1, 0, 0))), false},
		{"Two of an Add makes nothing", function(1, block(ret(1), con(1), api.Ins{Op: api.Add, Dst: 2, Two: 1, Args: []int{0, 0}})), true},
		{"Dst of a Store makes nothing", function(1, block(ret(1), con(1), op(api.Store, 1, 0, 0))), true},
		{"in a later block", function(0, block(jump(1)), block(ret(1), con(1))), true},
	} {
		if got := check.Foldable(x.f, 1); got != x.want {
			t.Errorf("%s: %v", x.name, got)
		}
	}
	// Any numbers, of functions that may not be: by the words they are values like others.
	for _, v := range []int{-1, 0, 8192, math.MinInt, math.MaxInt} {
		if !check.Foldable(function(3, block(ret(v), con(v))), v) {
			t.Errorf("%d is not foldable", v)
		}
	}
	if check.Foldable(api.Func{}, 0) {
		t.Error("without blocks")
	}
}
