package sample_test

import (
	"reflect"
	"testing"

	"jacquard/api"
	"jacquard/check"
	"jacquard/live"
	"jacquard/mach"
	"jacquard/phys"
	"jacquard/sample"
)

// TestRight: all samples are functions, machine code, and programs, that may be, and the same each time.
func TestRight(t *testing.T) {
	runs, folded, code, programs := sample.Runs(3, 2000), sample.Folded(5, 2000), sample.MRuns(7, 2000), sample.PRuns(9, 2000)
	for _, x := range runs {
		if !check.Right(x.F) {
			t.Fatalf("%v may not be", x.F)
		}
	}
	for _, f := range folded {
		if !check.Right(f) {
			t.Fatalf("%v may not be", f)
		}
	}
	for _, x := range code {
		if !mach.Right(x.M) {
			t.Fatalf("%v may not be", x.M)
		}
	}
	for _, x := range programs {
		if !phys.Right(x.P) {
			t.Fatalf("%v may not be", x.P)
		}
	}
	if !reflect.DeepEqual(programs, sample.PRuns(9, 2000)) {
		t.Error("other programs the second time")
	}
	if !reflect.DeepEqual(runs, sample.Runs(3, 2000)) || !reflect.DeepEqual(folded, sample.Folded(5, 2000)) || !reflect.DeepEqual(code, sample.MRuns(7, 2000)) {
		t.Error("others the second time")
	}
}

// TestPlacing: the second reading of what places have tells what the document's examples tell.
func TestPlacing(t *testing.T) {
	m := sample.MFunc(1, sample.MBlock(sample.ERet(2), sample.MLi(1, 5), sample.MThree(api.MAdd, 2, 0, 1, 0)))
	between := sample.PBlock(sample.ERet(0), sample.MImm(api.MLiw, 1, 0, 5), sample.MThree(api.MAdd, 0, 0, 1, 0))
	between.Ins[0].From, between.Ins[1].From = -1, 1
	left := sample.PBlock(sample.ERet(0), sample.MThree(api.MAdd, 0, 0, 1, 0))
	left.Ins[0].From = 1
	for _, x := range []struct {
		b     api.PBlock
		want  api.Errno
		place int
	}{
		{sample.PBlock(sample.ERet(0), sample.MLi(1, 5), sample.MThree(api.MAdd, 0, 0, 1, 0)), api.OK, 0},
		{sample.PBlock(sample.ERet(0), sample.MLi(1, 5), sample.MThree(api.MAdd, 0, 1, 1, 0)), api.ErrPlace, 1},
		{left, api.ErrPlace, 0},
		{between, api.OK, 0},
	} {
		if _, e, b, place := sample.PlacingOf(m, sample.PFunc(1, 4, 0, x.b)); e != x.want || b != 0 || place != x.place {
			t.Errorf("%v: %v, %d, %d", x.b, e, b, place)
		}
	}
}

// TestSettled: none of the settled code, the chosen and the straight takes what was not set, and straight code has at no place more registers than it may have.
func TestSettled(t *testing.T) {
	code := append(sample.MSettled(3, 500), sample.MChosen(4, 500)...)
	next := sample.Numbers(5)
	for range 500 {
		most := 1 + next(13)
		m := sample.Straight(next, most, next(30))
		code = append(code, sample.MRun{M: m})
		if got := live.Most(m); got > most {
			t.Fatalf("%v: %d at one place", m, got)
		}
	}
	for _, x := range code {
		in, _ := live.Sets(x.M)
		if !mach.Right(x.M) || len(in[0]) > 0 && in[0][len(in[0])-1] >= x.M.Params {
			t.Fatalf("%v takes what was not set", x.M)
		}
	}
}
