package phys

import (
	"jacquard/api"
	"jacquard/interp"
	"jacquard/mach"
)

// run is what has become of a program that is run, by then.
type run struct {
	in    api.Input
	regs  [registers]int32
	slots []int32
	out   api.Outcome
}

// Run runs a program.
func Run(p api.PFunc, in api.Input) api.Outcome {
	if !Right(p) {
		return api.Outcome{End: api.EndWrong}
	}
	r := begin(p, in)
	for at := 0; r.out.End == 0; {
		at = r.block(p.Blocks[at])
	}
	return r.out
}

// begin is a run ahead of its first step.
func begin(p api.PFunc, in api.Input) *run {
	r := &run{in: in, slots: make([]int32, p.Slots), out: api.Outcome{Mem: interp.Memory(in)}}
	copy(r.regs[:p.Params], in.Args)
	return r
}

// end ends the run.
func (r *run) end(how int, val int32) {
	r.out.End, r.out.Val = how, val
}

// step tells whether one more step may be done, and counts it; if none may, the run ends.
func (r *run) step() bool {
	if r.out.Steps >= r.in.Steps {
		r.end(api.EndSteps, 0)
		return false
	}
	r.out.Steps++
	return true
}

// block does a block, as far as the run comes, and tells which one is next, if it has not ended.
func (r *run) block(b api.PBlock) int {
	for _, x := range b.Ins {
		if !r.step() {
			return 0
		}
		if trap, ok := operationOf(x.I.Op).do(x.I, r); !ok {
			r.end(api.EndTrap, trap)
			return 0
		}
	}
	if !r.step() {
		return 0
	}
	return r.leave(b.End)
}

// leave does an end, and tells which block is next, if there is one.
func (r *run) leave(e api.End) int {
	switch e.Op {
	case api.ERet:
		r.end(api.EndRet, r.result(e))
		return 0
	case api.ETrap:
		r.end(api.EndTrap, e.Imm)
		return 0
	}
	return e.To[mach.Goes(e, r.regs[:])]
}

// result is what is returned: 0, if nothing is.
func (r *run) result(e api.End) int32 {
	if e.A < 0 {
		return 0
	}
	return r.regs[e.A]
}

// call notes down a call, and tells what is answered: each call takes the next answer; 0 behind the last one.
func (r *run) call(i api.Mach) int32 {
	e := api.Event{Callee: i.Imm}
	for _, a := range i.Args {
		e.Args = append(e.Args, r.regs[a])
	}
	answer := int32(0)
	if n := len(r.out.Calls); n < len(r.in.Answers) {
		answer = r.in.Answers[n]
	}
	r.out.Calls = append(r.out.Calls, e)
	return answer
}
