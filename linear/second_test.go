package linear_test

import (
	"fmt"
	"reflect"
	"slices"

	"jacquard/api"
	"jacquard/mach"
	"jacquard/phys"
	"jacquard/sample"
)

// named are the registers that an instruction of a program names.
func named(i api.Mach) []int {
	makes, takes := sample.Named(i)
	return slices.Concat(makes, takes)
}

// bare is an instruction without all that plays no part in it, but its number.
func bare(i api.Mach) api.Mach {
	b := api.Mach{Op: i.Op, Imm: i.Imm}
	from := [...]int{i.D, i.E, i.A, i.B, i.C}
	to := [...]*int{&b.D, &b.E, &b.A, &b.B, &b.C}
	if i.Op == api.MCall {
		b.Args = i.Args
	}
	// Where each field is another number, names tell which ones play a part.
	for _, n := range named(api.Mach{Op: i.Op, D: 0, E: 1, A: 2, B: 3, C: 4}) {
		*to[n] = from[n]
	}
	return b
}

// isOperand tells whether an instruction of a block is there to lay the last operand of a call of four.
func isOperand(b api.PBlock, n int) bool {
	for _, i := range b.Ins[n+1:] {
		if i.I.Op == api.MCall {
			return len(i.I.Args) == 4
		}
		if i.From >= 0 {
			return false
		}
	}
	return false
}

// overScratch is what a block does with a scratch register that it may not; nothing, if there is nothing.
func overScratch(b api.PBlock, k int) string {
	for n, i := range b.Ins {
		isCall := i.I.Op == api.MCall && len(i.I.Args) == 4
		switch {
		case i.I.Op == api.MSwap:
			return fmt.Sprintf("place %d is a swap", n)
		case !slices.Contains(named(i.I), k-1), i.I.Op == api.MMov && i.From < 0, k == 4 && isCall:
		case k == 4 && i.From < 0 && isOperand(b, n) && !slices.Contains(phys.Takes(i.I), k-1):
		default:
			return fmt.Sprintf("place %d names the scratch register", n)
		}
	}
	if slices.Contains(sample.Needed(b.End), k-1) {
		return "its end names the scratch register"
	}
	return ""
}

// badRow is what stands in a block of a program that may not; nothing, if there is nothing.
func badRow(of api.MBlock, b api.PBlock) string {
	last := -1
	for n, i := range b.Ins {
		if want := bare(i.I); !reflect.DeepEqual(sample.Own(i.I.Args), sample.Own(want.Args)) || fmt.Sprint(want) != fmt.Sprint(i.I) {
			return fmt.Sprintf("place %d has something that plays no part: %v", n, i.I)
		}
		between := []int{api.MMov, api.MSwap, api.MSld, api.MSst, api.MLi, api.MLiw}
		if i.From < 0 && (i.From != -1 || !slices.Contains(between, i.I.Op)) {
			return fmt.Sprintf("place %d is laid in between", n)
		}
		if i.From < 0 {
			continue
		}
		if i.From <= last || i.From >= len(of.Ins) || of.Ins[i.From].Op != i.I.Op || of.Ins[i.From].Imm != i.I.Imm {
			return fmt.Sprintf("place %d stands for %d", n, i.From)
		}
		if lacks(of.Ins[last+1 : i.From]) {
			return fmt.Sprintf("ahead of place %d something lacks", n)
		}
		last = i.From
	}
	if lacks(of.Ins[last+1:]) {
		return "something lacks at the end"
	}
	if b.End.Op != of.End.Op || !slices.Equal(b.End.To, of.End.To) || b.End.Imm != of.End.Imm {
		return "it ends otherwise"
	}
	return ""
}

// lacks tells whether one of these may not be left out.
func lacks(l []api.Mach) bool {
	stays := func(i api.Mach) bool { return i.Op != api.MMov && i.Op != api.MLi && i.Op != api.MLiw }
	return slices.ContainsFunc(l, stays)
}

// amiss is what of a program is not as the chapter's words have it (P13.2); nothing, if all is.
func amiss(m api.MFunc, k int, scratch bool, p api.PFunc) string {
	if e, b, place := phys.Func(p); e != api.OK {
		return fmt.Sprintf("it may not be: %v, %d, %d", e, b, place)
	}
	if p.Params != m.Params || p.K != k || len(p.Blocks) != len(m.Blocks) {
		return fmt.Sprintf("it has %d parameters, k %d, %d blocks", p.Params, p.K, len(p.Blocks))
	}
	for b, x := range p.Blocks {
		told := badRow(m.Blocks[b], x)
		if scratch && told == "" {
			told = overScratch(x, k)
		}
		if told != "" {
			return fmt.Sprintf("block %d: %s", b, told)
		}
	}
	if _, e, b, place := sample.PlacingOf(m, p); e != api.OK {
		return fmt.Sprintf("not accepted: %v, %d, %d", e, b, place)
	}
	return ""
}

// unlike is how a program ends otherwise than its machine code; nothing, if it does not. Nothing is held of code that is not at its end by then; done tells whether it is.
func unlike(m api.MFunc, p api.PFunc, in api.Input) (told string, done bool) {
	want := mach.Run(m, in)
	if want.End == api.EndSteps {
		return "", false
	}
	in.Steps *= 100
	got := phys.Run(p, in)
	want.Steps = got.Steps
	if !sample.Alike(got, want) {
		return fmt.Sprintf("ends as %v, not %v", got, want), true
	}
	return "", true
}
