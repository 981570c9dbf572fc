package phys_test

import (
	"slices"

	"jacquard/api"
	"jacquard/sample"
)

// fault is what Func answers.
type fault struct {
	e            api.Errno
	block, place int
}

// places are what an instruction takes, makes and spoils, by the chapter's words.
func places(i api.Mach) (takes, makes, spoils []int) {
	makes, takes = sample.Named(i)
	switch i.Op {
	case 28:
		spoils = []int{1, 2, 3}
	case 30:
		takes = []int{16 + int(i.Imm)}
	case 31:
		makes = []int{16 + int(i.Imm)}
	}
	return takes, makes, spoils
}

// outside tells whether one of these is not of the first k registers.
func outside(l []int, k int) bool {
	return slices.ContainsFunc(l, func(r int) bool { return r < 0 || r >= k })
}

// wrongIns is what is wrong first with an instruction, by the chapter's words.
func wrongIns(i api.Mach, k, slots int) api.Errno {
	all := []int{0, 1, 2, 3}
	switch {
	case i.Op < 1 || i.Op > 31:
		return api.ErrIns
	case i.Op == 28 && (len(i.Args) > 4 || !slices.Equal(i.Args, all[:len(i.Args)]) || i.D != 0):
		return api.ErrIns
	case i.Op == 29 && (i.D != 0 || i.E != 1):
		return api.ErrIns
	}
	if makes, takes := sample.Named(i); outside(makes, k) || outside(takes, k) {
		return api.ErrReg
	}
	if i.Op > 29 && outside([]int{int(i.Imm)}, slots) {
		return api.ErrSlot
	}
	bounds := map[int][2]int32{3: {-32768, 32767}, 18: {-128, 127}, 19: {-128, 127}, 20: {0, 31}, 21: {0, 31}, 22: {0, 31}, 24: {0, 255}, 26: {0, 255}}
	if b, ok := bounds[i.Op]; ok && (i.Imm < b[0] || i.Imm > b[1]) {
		return api.ErrImm
	}
	return api.OK
}

// wrongEnd is what is wrong first with an end, by the chapter's words.
func wrongEnd(e api.End, k, blocks int) api.Errno {
	counts := [][2]int{{1, 0}, {1, 1}, {2, 2}, {2, 2}, {2, 2}, {2, 2}, {2, 65}, {0, 0}, {0, 0}}
	switch {
	case e.Op < 0 || e.Op >= len(counts) || len(e.To) < counts[e.Op][0] || len(e.To) > counts[e.Op][1]:
		return api.ErrIns
	case e.Op == 7 && e.A > 0 || outside(sample.Needed(e), k):
		return api.ErrReg
	case slices.ContainsFunc(e.To, func(to int) bool { return to <= 0 || to >= blocks }):
		return api.ErrBlock
	}
	return api.OK
}

// firstWrong is what Func must tell, by the chapter's words.
func firstWrong(p api.PFunc) fault {
	all := len(p.Blocks)
	for _, b := range p.Blocks {
		all += len(b.Ins)
	}
	switch {
	case p.Params < 0, p.Params > 4, p.K < 4, p.K > 16, p.Slots < 0, p.Slots > 16384:
		return fault{e: api.ErrArg}
	case len(p.Blocks) == 0:
		return fault{e: api.ErrBlock}
	case len(p.Blocks) > 512 || all > 65536:
		return fault{e: api.ErrMany}
	}
	for b, x := range p.Blocks {
		for n, i := range x.Ins {
			if e := wrongIns(i.I, p.K, p.Slots); e != api.OK {
				return fault{e, b, n}
			}
		}
		if e := wrongEnd(x.End, p.K, len(p.Blocks)); e != api.OK {
			return fault{e, b, len(x.Ins)}
		}
	}
	return fault{}
}

// second is a run by the document's words: one step after the other, each told by block and place. A place's number is its own.
type second struct {
	sample.Second
	p            api.PFunc
	block, place int
}

// instruction does one.
func (s *second) instruction(i api.Mach) {
	slot := 16 + int(i.Imm)
	switch i.Op {
	case api.MSld:
		s.Words[i.D] = s.Words[slot]
	case api.MSst:
		s.Words[slot] = s.Words[i.A]
	default:
		s.Do(i)
	}
	if i.Op == api.MCall {
		s.Words[1], s.Words[2], s.Words[3] = 24302, 24303, 24304
	}
}

// step does one step, or ends the run for want of them.
func (s *second) step() {
	if !s.Step() {
		return
	}
	b := s.p.Blocks[s.block]
	if s.place < len(b.Ins) {
		s.place++
		s.instruction(b.Ins[s.place-1].I)
		return
	}
	if way := s.Leave(b.End); way >= 0 {
		s.block, s.place = b.End.To[way], 0
	}
}

// reckoned runs a program a second time.
func reckoned(p api.PFunc, in api.Input) api.Outcome {
	if firstWrong(p) != (fault{}) {
		return api.Outcome{End: api.EndWrong}
	}
	s := &second{Second: sample.Began(p.Params, in), p: p}
	for s.Out.End == 0 {
		s.step()
	}
	return s.Out
}
