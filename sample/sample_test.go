package sample_test

import (
	"reflect"
	"testing"

	"jacquard/check"
	"jacquard/mach"
	"jacquard/phys"
	"jacquard/sample"
)

// TestRight: all samples are functions, machine code, and programs, that may be, and the same each time.
func TestRight(t *testing.T) {
	runs, folded, code, programs := sample.Runs(3, 2000), sample.Folded(5, 2000), sample.MRuns(7, 2000), sample.PRuns(9, 2000)
	for _, x := range runs {
		if !check.Right(x.F) {
			t.Fatalf("%v may not be", x.F)
		}
	}
	for _, f := range folded {
		if !check.Right(f) {
			t.Fatalf("%v may not be", f)
		}
	}
	for _, x := range code {
		if !mach.Right(x.M) {
			t.Fatalf("%v may not be", x.M)
		}
	}
	for _, x := range programs {
		if !phys.Right(x.P) {
			t.Fatalf("%v may not be", x.P)
		}
	}
	if !reflect.DeepEqual(programs, sample.PRuns(9, 2000)) {
		t.Error("other programs the second time")
	}
	if !reflect.DeepEqual(runs, sample.Runs(3, 2000)) || !reflect.DeepEqual(folded, sample.Folded(5, 2000)) || !reflect.DeepEqual(code, sample.MRuns(7, 2000)) {
		t.Error("others the second time")
	}
}
