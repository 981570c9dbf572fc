package mach_test

import (
	"maps"
	"slices"

	"jacquard/api"
	"jacquard/sample"
)

// What instructions and ends name, and do, by the chapter's words.
var named, needed, leads = sample.Named, sample.Needed, sample.Leads

// fault is what Func answers.
type fault struct {
	e            api.Errno
	block, place int
}

// predecessors are the blocks that go on to each one, rising, each once.
func predecessors(m api.MFunc) [][]int {
	l := make([][]int, len(m.Blocks))
	for to := range m.Blocks {
		for from, b := range m.Blocks {
			if slices.Contains(b.End.To, to) {
				l[to] = append(l[to], from)
			}
		}
	}
	return l
}

// outside tells whether one of these is no register.
func outside(l []int) bool {
	return slices.ContainsFunc(l, func(r int) bool { return r < 0 || r > 8191 })
}

// wrongPhi is what is wrong with a block's phi of a number.
func wrongPhi(all []api.Phi, n int) api.Errno {
	l := []int{all[n].Dst}
	for _, in := range all[n].In {
		l = append(l, in.Val)
	}
	if outside(l) {
		return api.ErrReg
	}
	if slices.ContainsFunc(all[:n], func(p api.Phi) bool { return p.Dst == all[n].Dst }) {
		return api.ErrTwice
	}
	return api.OK
}

// wrongIns is what is wrong with an instruction.
func wrongIns(i api.Mach) api.Errno {
	makes, takes := named(i)
	if i.Op < 1 || i.Op == 2 || i.Op > 29 || i.Op == 28 && len(i.Args) > 4 {
		return api.ErrIns
	}
	if outside(makes) || outside(takes) {
		return api.ErrReg
	}
	if i.Op == 29 && i.D == i.E {
		return api.ErrTwice
	}
	bounds := map[int][2]int32{3: {-32768, 32767}, 18: {-128, 127}, 19: {-128, 127}, 20: {0, 31}, 21: {0, 31}, 22: {0, 31}, 24: {0, 255}, 26: {0, 255}}
	if b, ok := bounds[i.Op]; ok && (i.Imm < b[0] || i.Imm > b[1]) {
		return api.ErrImm
	}
	return api.OK
}

// wrongEnd is what is wrong with the end of one of so many blocks.
func wrongEnd(e api.End, blocks int) api.Errno {
	counts := [][2]int{{1, 0}, {1, 1}, {2, 2}, {2, 2}, {2, 2}, {2, 2}, {2, 65}, {0, 0}, {0, 0}}
	if e.Op < 0 || e.Op >= len(counts) || len(e.To) < counts[e.Op][0] || len(e.To) > counts[e.Op][1] {
		return api.ErrIns
	}
	if outside(needed(e)) {
		return api.ErrReg
	}
	if slices.ContainsFunc(e.To, func(to int) bool { return to <= 0 || to >= blocks }) {
		return api.ErrBlock
	}
	return api.OK
}

// firstWrong is what Func must tell, by the chapter's words.
func firstWrong(m api.MFunc) fault {
	all := 0
	for _, b := range m.Blocks {
		all += len(b.Phis) + len(b.Ins) + 1
	}
	switch {
	case m.Params < 0 || m.Params > 4:
		return fault{e: api.ErrArg}
	case len(m.Blocks) == 0:
		return fault{e: api.ErrBlock}
	case len(m.Blocks) > 512 || all > 16384:
		return fault{e: api.ErrMany}
	}
	for b, x := range m.Blocks {
		for n := range x.Phis {
			if e := wrongPhi(x.Phis, n); e != api.OK {
				return fault{e, b, -n - 1}
			}
		}
		for n, i := range x.Ins {
			if e := wrongIns(i); e != api.OK {
				return fault{e, b, n}
			}
		}
		if e := wrongEnd(x.End, len(m.Blocks)); e != api.OK {
			return fault{e, b, len(x.Ins)}
		}
	}
	return wrongWays(m)
}

// wrongWays is what is wrong with where control comes from.
func wrongWays(m api.MFunc) fault {
	reached := map[int]bool{0: true}
	for range m.Blocks {
		for b := range maps.Clone(reached) {
			for _, to := range m.Blocks[b].End.To {
				reached[to] = true
			}
		}
	}
	for b := range m.Blocks {
		if !reached[b] {
			return fault{api.ErrReach, b, 0}
		}
	}
	preds := predecessors(m)
	for b, x := range m.Blocks {
		for n, p := range x.Phis {
			var from []int
			for _, in := range p.In {
				from = append(from, in.From)
			}
			if b == 0 || !slices.Equal(from, preds[b]) {
				return fault{api.ErrPhi, b, -n - 1}
			}
		}
	}
	return fault{}
}

// second is a run by the document's words, in numbers of 64 bits: one step after the other, each told by block and place.
type second struct {
	sample.Second
	m            api.MFunc
	block, place int
}

// end does one.
func (s *second) end(e api.End) {
	way := s.Leave(e)
	if way < 0 {
		return
	}
	to, ahead := e.To[way], maps.Clone(s.Words)
	for _, p := range s.m.Blocks[to].Phis {
		for _, in := range p.In {
			if in.From == s.block {
				s.Words[p.Dst] = ahead[in.Val]
			}
		}
	}
	s.block, s.place = to, 0
}

// step does one step, or ends the run for want of them.
func (s *second) step() {
	if !s.Step() {
		return
	}
	b := s.m.Blocks[s.block]
	if s.place == len(b.Ins) {
		s.end(b.End)
		return
	}
	s.place++
	s.Do(b.Ins[s.place-1])
}

// reckoned runs machine code a second time.
func reckoned(m api.MFunc, in api.Input) api.Outcome {
	if firstWrong(m) != (fault{}) {
		return api.Outcome{End: api.EndWrong}
	}
	s := &second{Second: sample.Began(m.Params, in), m: m}
	for s.Out.End == 0 {
		s.step()
	}
	return s.Out
}
