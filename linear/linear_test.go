package linear_test

import (
	"fmt"
	"reflect"
	"slices"
	"testing"

	"jacquard/api"
	"jacquard/linear"
	"jacquard/live"
	"jacquard/sample"
)

// hold holds what is made of machine code against the chapter's words, with so many registers, and tells it.
func hold(t *testing.T, m api.MFunc, k int, scratch bool) api.PFunc {
	t.Helper()
	p, e := linear.Func(m, k, scratch)
	if e != api.OK {
		t.Fatalf("%s, k %d, scratch %v: %v", brief(m), k, scratch, e)
	}
	if told := amiss(m, k, scratch, p); told != "" {
		t.Fatalf("%s, k %d, scratch %v: %s", brief(m, p), k, scratch, told)
	}
	return p
}

// brief is what is told of things, however great they are.
func brief(l ...any) string {
	s := fmt.Sprint(l...)
	return s[:min(len(s), 4000)]
}

// holdRun holds that it does what the machine code does.
func holdRun(t *testing.T, x sample.MRun, p api.PFunc) (done bool) {
	t.Helper()
	told, done := unlike(x.M, p, x.In)
	if told != "" {
		t.Fatalf("%s: %s", brief(x.M, p, x.In), told)
	}
	return done
}

// holdAll holds machine code, and what it does, with registers as many as next tells.
func holdAll(t *testing.T, runs []sample.MRun, next func(int) int, times int) {
	t.Helper()
	done := 0
	for _, x := range runs {
		for range times {
			p := hold(t, x.M, api.MinRegs+next(api.MaxRegs-api.MinRegs+1), next(2) == 0)
			if holdRun(t, x, p) {
				done++
			}
		}
	}
	if done < len(runs)*times/2 {
		t.Errorf("only %d of %d run to their end", done, len(runs)*times)
	}
}

// TestSettled: machine code of all kinds, with critical edges, and registers that are made again and again, gets registers, and does the same (P13.2).
func TestSettled(t *testing.T) {
	holdAll(t, sample.MSettled(31, 1500), sample.Numbers(5), 3)
}

// TestChosen: so does what was chosen of functions (P13.2).
func TestChosen(t *testing.T) {
	holdAll(t, sample.MChosen(32, 600), sample.Numbers(6), 3)
}

// TestUnset: of all code with something live where it begins that is no parameter nothing is made; of all other something is (P13.1, P13.2).
func TestUnset(t *testing.T) {
	refused, next := 0, sample.Numbers(7)
	for _, x := range sample.MRuns(33, 1500) {
		k, scratch := api.MinRegs+next(13), next(2) == 0
		in, _ := live.Sets(x.M)
		if !slices.ContainsFunc(in[0], func(r int) bool { return r >= x.M.Params }) {
			holdRun(t, x, hold(t, x.M, k, scratch))
			continue
		}
		refused++
		if p, e := linear.Func(x.M, k, scratch); e != api.ErrUse || !reflect.DeepEqual(p, api.PFunc{}) {
			t.Fatalf("%v: %v %v", x.M, p, e)
		}
	}
	if refused < 1000 || refused > 1480 {
		t.Errorf("%d of 1500 were refused", refused)
	}
}

// TestStraight: code of one block, of instructions that may be of any registers, needs no slots, with three registers more than it has at one place (P13.3).
func TestStraight(t *testing.T) {
	next, full := sample.Numbers(8), 0
	for n := range 2600 {
		k := api.MinRegs + n%13
		m := sample.Straight(next, k-3, 3+next(50))
		most := live.Most(m)
		if most > k-3 {
			t.Fatalf("%v: %d at one place, of %d", m, most, k-3)
		}
		if most == k-3 {
			full++
		}
		for _, scratch := range []bool{false, true} {
			p := hold(t, m, k, scratch)
			if p.Slots != 0 || linear.Spilt(p) != 0 {
				t.Fatalf("%v, k %d, scratch %v: %v: %d slots", m, k, scratch, p, p.Slots)
			}
			in := sample.Full(next)
			in.Steps = 100
			holdRun(t, sample.MRun{M: m, In: in}, p)
		}
	}
	if full < 2000 {
		t.Errorf("only %d have as many as may be", full)
	}
}

// TestTold: of any program it is told how much was laid in between, and how many slots there are (P13.4).
func TestTold(t *testing.T) {
	for _, x := range sample.PRuns(34, 500) {
		count := 0
		for _, b := range x.P.Blocks {
			for _, i := range b.Ins {
				if i.From < 0 {
					count++
				}
			}
		}
		if got := linear.Laid(x.P); got != count {
			t.Fatalf("%v: %d laid, not %d", x.P, got, count)
		}
		if got := linear.Spilt(x.P); got != x.P.Slots {
			t.Fatalf("%v: %d spilt", x.P, got)
		}
	}
}

// TestKept: what is handed in stays as it was, what is answered shares nothing with it, and the same is made of the same each time (R1, R4).
func TestKept(t *testing.T) {
	next := sample.Numbers(9)
	for _, x := range slices.Concat(sample.MSettled(35, 200), sample.MChosen(36, 200)) {
		k, scratch := api.MinRegs+next(13), next(2) == 0
		m := sample.CopiedCode(x.M)
		p, e := linear.Func(m, k, scratch)
		if e != api.OK || !reflect.DeepEqual(m, sample.CopiedCode(x.M)) {
			t.Fatalf("%v became %v, %v", x.M, m, e)
		}
		was := sample.CopiedProgram(p)
		again, _ := linear.Func(m, k, scratch)
		sample.ScribbleCode(m)
		linear.Laid(p)
		linear.Spilt(p)
		if !reflect.DeepEqual(sample.CopiedProgram(p), was) {
			t.Fatalf("%v changed with what was handed in", was)
		}
		sample.ScribbleProgram(p)
		if !reflect.DeepEqual(sample.CopiedProgram(again), was) {
			t.Fatalf("%v, the second time %v", was, again)
		}
	}
}
