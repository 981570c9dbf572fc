package live_test

import (
	"slices"
	"testing"

	"jacquard/api"
	"jacquard/interp"
	"jacquard/live"
	"jacquard/mach"
	"jacquard/sample"
)

// enoughSteps is how many a run is given; one that is not at its end by then is left out.
const enoughSteps = 300

// tried counts runs by how they ended, but those that were not at their end.
type tried map[int]int

// enough holds that so many ended in each way.
func (c tried) enough(t *testing.T, least int) {
	t.Helper()
	if c[api.EndRet] < least || c[api.EndTrap] < least {
		t.Errorf("only %v", c)
	}
}

// scribbled is code in which, ahead of each place, something is written into each register that is not live there. It is told, too, how many times a step is laid in at most.
func scribbled(m api.MFunc, regs []int) (own api.MFunc, most int) {
	own = sample.CopiedCode(m)
	for b, x := range m.Blocks {
		var all []api.Mach
		for place := range len(x.Ins) + 1 {
			stays, many := live.At(m, b, place), 1
			for _, r := range regs {
				if !slices.Contains(stays, r) {
					all = append(all, api.Mach{Op: api.MLiw, D: r, Imm: int32(77000 + 100*place + r)})
					many++
				}
			}
			all = append(all, x.Ins[place:min(place+1, len(x.Ins))]...)
			most = max(most, many)
		}
		own.Blocks[b].Ins = all
	}
	return own, most
}

// TestScribbled: what stands in registers that are not live plays no part (P10.5).
func TestScribbled(t *testing.T) {
	ended := tried{}
	for _, x := range sample.MRuns(23, 1500) {
		x.In.Steps = enoughSteps
		want := mach.Run(x.M, x.In)
		if want.End == api.EndSteps {
			continue
		}
		ended[want.End]++
		m, most := scribbled(x.M, []int{0, 1, 2, 3, 4, 5, 6, 7, 8, 4096, 8191})
		x.In.Steps *= most
		if got := mach.Run(m, x.In); !interp.Same(got, want) {
			t.Fatalf("%v, %v: %v, not %v", x.M, x.In, got, want)
		}
	}
	ended.enough(t, 200)
}

// renamed is code in which one register has another one's number.
func renamed(m api.MFunc, from, to int) api.MFunc {
	m = sample.CopiedCode(m)
	name := func(r *int) {
		if *r == from {
			*r = to
		}
	}
	for b := range m.Blocks {
		x := &m.Blocks[b]
		for n := range x.Phis {
			name(&x.Phis[n].Dst)
			for k := range x.Phis[n].In {
				name(&x.Phis[n].In[k].Val)
			}
		}
		for n := range x.Ins {
			i := &x.Ins[n]
			for _, r := range []*int{&i.D, &i.E, &i.A, &i.B, &i.C} {
				name(r)
			}
			for k := range i.Args {
				name(&i.Args[k])
			}
		}
		name(&x.End.A)
		name(&x.End.B)
	}
	return m
}

// shared is code in which registers that are never together are one, as long as there are such; and how often that was so. (Parameters keep their numbers.)
func shared(m api.MFunc) (api.MFunc, int) {
	times := 0
	for again := true; again; {
		again = false
		regs := second{m}.named()
		for _, a := range regs {
			for _, b := range regs {
				if b > a && b >= m.Params && !again && !live.Together(m, a, b) {
					m, again = renamed(m, b, a), true
					times++
				}
			}
		}
	}
	return m, times
}

// TestShared: registers that have no place in common can be one: the code does the same, step by step (P10.4, P10.5).
func TestShared(t *testing.T) {
	ended, all := tried{}, 0
	for _, x := range sample.MRuns(29, 1500) {
		thinned := halved(x.M)
		m, times := shared(thinned)
		all += times
		if e, b, p := mach.Func(m); e != api.OK {
			t.Fatalf("%v: %v %d %d", m, e, b, p)
		}
		x.In.Steps = enoughSteps
		want := mach.Run(thinned, x.In)
		ended[want.End]++
		if got := mach.Run(m, x.In); !interp.Same(got, want) || got.Steps != want.Steps {
			t.Fatalf("%v, %v: %v, not %v", x.M, x.In, got, want)
		}
	}
	ended.enough(t, 200)
	if all < 1500 {
		t.Errorf("only %d shared", all)
	}
}

// halved is code with every other instruction gone: more of its registers are apart.
func halved(m api.MFunc) api.MFunc {
	m = sample.CopiedCode(m)
	for b := range m.Blocks {
		x := &m.Blocks[b]
		n := 0
		x.Ins = slices.DeleteFunc(x.Ins, func(api.Mach) bool { n++; return n%2 == 0 })
	}
	return m
}
