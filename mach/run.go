package mach

import (
	"cmp"
	"slices"

	"jacquard/api"
	"jacquard/interp"
)

// run is what has become of machine code that is run, by then.
type run struct {
	in    api.Input
	regs  file
	mem   []int32
	calls []api.Event
	steps int
}

// Run runs machine code.
func Run(m api.MFunc, in api.Input) api.Outcome {
	if !Right(m) {
		return api.Outcome{End: api.EndWrong}
	}
	r := begin(m.Params, in)
	// Block 0 has no phis, so from where control comes to it plays no part.
	from, at := 0, 0
come:
	block := m.Blocks[at]
	r.phis(block.Phis, from)
	for _, i := range block.Ins {
		if !r.step() {
			return r.end(api.EndSteps, 0)
		}
		if trap, ok := r.do(i); !ok {
			return r.end(api.EndTrap, trap)
		}
	}
	if !r.step() {
		return r.end(api.EndSteps, 0)
	}
	switch e := block.End; e.Op {
	case api.ERet:
		// No register below 0 is ever set: so one that returns nothing returns 0.
		return r.end(api.EndRet, r.regs.get(e.A))
	case api.ETrap:
		return r.end(api.EndTrap, e.Imm)
	default:
		from, at = at, e.To[goes(e, r.regs)]
		goto come
	}
}

// begin is a run ahead of its first step.
func begin(params int, in api.Input) *run {
	r := &run{in: in, regs: make(file), mem: interp.Memory(in)}
	for n, w := range in.Args[:min(params, len(in.Args))] {
		r.regs.set(n, w)
	}
	return r
}

// end is how a run has ended.
func (r *run) end(how int, val int32) api.Outcome {
	return api.Outcome{End: how, Val: val, Mem: r.mem, Calls: r.calls, Steps: r.steps}
}

// step tells whether one more step may be done, and counts it.
func (r *run) step() bool {
	if r.steps >= r.in.Steps {
		return false
	}
	r.steps++
	return true
}

// phis gives a block's phis what they take from the block that control comes from.
func (r *run) phis(all []api.Phi, from int) {
	if len(all) == 0 {
		return
	}
	// The In of each are one for each predecessor, rising: so they are looked up once for all phis, however many there are.
	n, _ := slices.BinarySearchFunc(all[0].In, from, func(in api.In, from int) int {
		return cmp.Compare(in.From, from)
	})
	// A phi may take what another one of the block makes: so none is set ahead of all being read.
	taken := make([]int32, len(all))
	for k, p := range all {
		taken[k] = r.regs.get(p.In[n].Val)
	}
	for k, p := range all {
		r.regs.set(p.Dst, taken[k])
	}
}

// do does an instruction; false: it traps, and as what.
func (r *run) do(i api.Mach) (trap int32, ok bool) {
	if i.Op == api.MCall {
		r.call(i)
		return 0, true
	}
	return do(i, r.regs, r.mem)
}

// call notes down a call, and takes what is answered: each call takes the next answer; 0 behind the last one.
func (r *run) call(i api.Mach) {
	e := api.Event{Callee: i.Imm}
	for _, a := range i.Args {
		e.Args = append(e.Args, r.regs.get(a))
	}
	answer := int32(0)
	if n := len(r.calls); n < len(r.in.Answers) {
		answer = r.in.Answers[n]
	}
	r.calls = append(r.calls, e)
	r.regs.set(i.D, answer)
}
