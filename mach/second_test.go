package mach_test

import (
	"maps"
	"math"
	"slices"

	"jacquard/api"
)

// fault is what Func answers.
type fault struct {
	e            api.Errno
	block, place int
}

// named are the registers that an instruction makes, and those that it takes, by the chapter's table.
func named(i api.Mach) (makes, takes []int) {
	switch i.Op {
	case 1:
		return []int{i.D}, []int{i.A}
	case 2:
		return []int{i.A, i.B}, []int{i.A, i.B}
	case 3, 4:
		return []int{i.D}, nil
	case 5, 6, 7, 8, 9, 10, 11, 12, 13, 14, 15, 16, 17:
		return []int{i.D}, []int{i.A, i.B}
	case 18, 19, 20, 21, 22:
		return []int{i.D}, []int{i.A}
	case 23:
		return []int{i.D}, []int{i.A, i.B, i.C}
	case 24:
		return []int{i.D}, []int{i.A}
	case 25:
		return []int{i.D}, []int{i.A, i.B}
	case 26:
		return nil, []int{i.A, i.B}
	case 27:
		return nil, []int{i.A, i.B, i.C}
	case 28:
		return []int{i.D}, i.Args
	case 29:
		return []int{i.D, i.E}, []int{i.A, i.B}
	case 30:
		return []int{i.D}, nil
	case 31:
		return nil, []int{i.A}
	}
	return nil, nil
}

// needed are the registers that an end takes, by the chapter's words.
func needed(e api.End) []int {
	switch e.Op {
	case 2, 6:
		return []int{e.A}
	case 3, 4, 5:
		return []int{e.A, e.B}
	case 7:
		if e.A >= 0 {
			return []int{e.A}
		}
	}
	return nil
}

// predecessors are the blocks that go on to each one, rising, each once.
func predecessors(m api.MFunc) [][]int {
	l := make([][]int, len(m.Blocks))
	for to := range m.Blocks {
		for from, b := range m.Blocks {
			if slices.Contains(b.End.To, to) {
				l[to] = append(l[to], from)
			}
		}
	}
	return l
}

// outside tells whether one of these is no register.
func outside(l []int) bool {
	return slices.ContainsFunc(l, func(r int) bool { return r < 0 || r > 8191 })
}

// wrongPhi is what is wrong with a block's phi of a number.
func wrongPhi(all []api.Phi, n int) api.Errno {
	l := []int{all[n].Dst}
	for _, in := range all[n].In {
		l = append(l, in.Val)
	}
	if outside(l) {
		return api.ErrReg
	}
	if slices.ContainsFunc(all[:n], func(p api.Phi) bool { return p.Dst == all[n].Dst }) {
		return api.ErrTwice
	}
	return api.OK
}

// wrongIns is what is wrong with an instruction.
func wrongIns(i api.Mach) api.Errno {
	makes, takes := named(i)
	if i.Op < 1 || i.Op == 2 || i.Op > 29 || i.Op == 28 && len(i.Args) > 4 {
		return api.ErrIns
	}
	if outside(makes) || outside(takes) {
		return api.ErrReg
	}
	if i.Op == 29 && i.D == i.E {
		return api.ErrTwice
	}
	bounds := map[int][2]int32{3: {-32768, 32767}, 18: {-128, 127}, 19: {-128, 127}, 20: {0, 31}, 21: {0, 31}, 22: {0, 31}, 24: {0, 255}, 26: {0, 255}}
	if b, ok := bounds[i.Op]; ok && (i.Imm < b[0] || i.Imm > b[1]) {
		return api.ErrImm
	}
	return api.OK
}

// wrongEnd is what is wrong with the end of one of so many blocks.
func wrongEnd(e api.End, blocks int) api.Errno {
	counts := [][2]int{{1, 0}, {1, 1}, {2, 2}, {2, 2}, {2, 2}, {2, 2}, {2, 65}, {0, 0}, {0, 0}}
	if e.Op < 0 || e.Op >= len(counts) || len(e.To) < counts[e.Op][0] || len(e.To) > counts[e.Op][1] {
		return api.ErrIns
	}
	if outside(needed(e)) {
		return api.ErrReg
	}
	if slices.ContainsFunc(e.To, func(to int) bool { return to <= 0 || to >= blocks }) {
		return api.ErrBlock
	}
	return api.OK
}

// firstWrong is what Func must tell, by the chapter's words.
func firstWrong(m api.MFunc) fault {
	all := 0
	for _, b := range m.Blocks {
		all += len(b.Phis) + len(b.Ins) + 1
	}
	switch {
	case m.Params < 0 || m.Params > 4:
		return fault{e: api.ErrArg}
	case len(m.Blocks) == 0:
		return fault{e: api.ErrBlock}
	case len(m.Blocks) > 512 || all > 16384:
		return fault{e: api.ErrMany}
	}
	for b, x := range m.Blocks {
		for n := range x.Phis {
			if e := wrongPhi(x.Phis, n); e != api.OK {
				return fault{e, b, -n - 1}
			}
		}
		for n, i := range x.Ins {
			if e := wrongIns(i); e != api.OK {
				return fault{e, b, n}
			}
		}
		if e := wrongEnd(x.End, len(m.Blocks)); e != api.OK {
			return fault{e, b, len(x.Ins)}
		}
	}
	return wrongWays(m)
}

// wrongWays is what is wrong with where control comes from.
func wrongWays(m api.MFunc) fault {
	reached := map[int]bool{0: true}
	for range m.Blocks {
		for b := range maps.Clone(reached) {
			for _, to := range m.Blocks[b].End.To {
				reached[to] = true
			}
		}
	}
	for b := range m.Blocks {
		if !reached[b] {
			return fault{api.ErrReach, b, 0}
		}
	}
	preds := predecessors(m)
	for b, x := range m.Blocks {
		for n, p := range x.Phis {
			var from []int
			for _, in := range p.In {
				from = append(from, in.From)
			}
			if b == 0 || !slices.Equal(from, preds[b]) {
				return fault{api.ErrPhi, b, -n - 1}
			}
		}
	}
	return fault{}
}

// second is a run by the document's words, in numbers of 64 bits: one step after the other, each told by block and place.
type second struct {
	m            api.MFunc
	in           api.Input
	regs         map[int]int64
	block, place int
	out          api.Outcome
}

// round is what a number goes round to.
func round(n int64) int64 {
	const all = int64(1) << 32
	n = (n%all + all) % all
	if n >= all/2 {
		n -= all
	}
	return n
}

// unsigned is a word without its sign.
func unsigned(n int64) int64 {
	if n < 0 {
		return n + int64(1)<<32
	}
	return n
}

// truth is 1, if something is so, else 0.
func truth(so bool) int64 {
	if so {
		return 1
	}
	return 0
}

// reckon is a word by an operation, MAdd to MDiv, of two others (MDiv by 0 is not asked for).
func reckon(op int, a, b int64) int64 {
	power := int64(1) << (unsigned(b) % 32)
	switch op {
	case api.MAdd:
		return round(a + b)
	case api.MSub:
		return round(a - b)
	case api.MMul:
		return round(a * b)
	case api.MAnd:
		return round(unsigned(a) & unsigned(b))
	case api.MOr:
		return round(unsigned(a) | unsigned(b))
	case api.MXor:
		return round(unsigned(a) ^ unsigned(b))
	case api.MShl:
		return round(unsigned(a) * power)
	case api.MShr:
		return round(unsigned(a) / power)
	case api.MSar:
		return int64(math.Floor(float64(a) / float64(power)))
	case api.MEq:
		return truth(a == b)
	case api.MLt:
		return truth(a < b)
	case api.MLtu:
		return truth(unsigned(a) < unsigned(b))
	}
	return round(a / b)
}

// meant is what an instruction of registers makes, and what it stores (where, and what), by the words that it takes; a trap, if it is not 0.
type meant struct {
	made      []int64
	at, store int64
	stores    bool
	trap      int32
}

// address is what comes of a word of memory that is asked for.
func address(mem []int32, at int64, store ...int64) meant {
	at = round(at)
	switch {
	case at < 0 || at >= int64(len(mem)):
		return meant{trap: api.TrapMem}
	case len(store) > 0:
		return meant{at: at, store: store[0], stores: true}
	}
	return meant{made: []int64{int64(mem[at])}}
}

// meaning is what an instruction that Do does comes to.
func meaning(i api.Mach, a []int64, mem []int32) meant {
	imm := int64(i.Imm)
	switch i.Op {
	case api.MMov:
		return meant{made: a}
	case api.MSwap:
		return meant{made: []int64{a[1], a[0]}}
	case api.MLi, api.MLiw:
		return meant{made: []int64{imm}}
	case api.MAddI:
		return meant{made: []int64{round(a[0] + imm)}}
	case api.MAndI:
		return meant{made: []int64{reckon(api.MAnd, a[0], imm)}}
	case api.MShlI:
		return meant{made: []int64{reckon(api.MShl, a[0], imm)}}
	case api.MShrI:
		return meant{made: []int64{reckon(api.MShr, a[0], imm)}}
	case api.MSarI:
		return meant{made: []int64{reckon(api.MSar, a[0], imm)}}
	case api.MMadd:
		return meant{made: []int64{round(round(a[0]*a[1]) + a[2])}}
	case api.MLd:
		return address(mem, a[0]+imm)
	case api.MLdX:
		return address(mem, a[0]+a[1])
	case api.MSt:
		return address(mem, a[0]+imm, a[1])
	case api.MStX:
		return address(mem, a[0]+a[1], a[2])
	case api.MMulw:
		low := round(a[0] * a[1])
		return meant{made: []int64{low, (a[0]*a[1] - unsigned(low)) / (int64(1) << 32)}}
	}
	if i.Op == api.MDiv && a[1] == 0 {
		return meant{trap: api.TrapDiv}
	}
	return meant{made: []int64{reckon(i.Op, a[0], a[1])}}
}

// leads is the place in To of where an end goes, by the words that it takes.
func leads(e api.End, a []int64) int {
	switch e.Op {
	case api.EJ:
		return 0
	case api.EBnz:
		return int(truth(a[0] == 0))
	case api.EBeq:
		return int(truth(a[0] != a[1]))
	case api.EBlt:
		return int(truth(a[0] >= a[1]))
	case api.EBltu:
		return int(truth(unsigned(a[0]) >= unsigned(a[1])))
	case api.EJt:
		last := len(e.To) - 1
		for n := range max(last, 0) {
			if unsigned(a[0]) == int64(n) {
				return n
			}
		}
		return last
	}
	return -1
}

// take is the words of registers.
func (s *second) take(l []int) []int64 {
	var words []int64
	for _, r := range l {
		words = append(words, s.regs[r])
	}
	return words
}

// finish ends the run.
func (s *second) finish(how int, val int64) {
	s.out.End, s.out.Val = how, int32(val)
}

// instruction does one.
func (s *second) instruction(i api.Mach) {
	makes, takes := named(i)
	a := s.take(takes)
	if i.Op == api.MCall {
		e := api.Event{Callee: i.Imm}
		for _, w := range a {
			e.Args = append(e.Args, int32(w))
		}
		s.regs[i.D] = 0
		if calls := len(s.out.Calls); calls < len(s.in.Answers) {
			s.regs[i.D] = int64(s.in.Answers[calls])
		}
		s.out.Calls = append(s.out.Calls, e)
		return
	}
	x := meaning(i, a, s.out.Mem)
	if x.trap != 0 {
		s.finish(api.EndTrap, int64(x.trap))
		return
	}
	if x.stores {
		s.out.Mem[x.at] = int32(x.store)
	}
	for n, r := range makes {
		s.regs[r] = x.made[n]
	}
}

// end does one.
func (s *second) end(e api.End) {
	a := s.take(needed(e))
	switch {
	case e.Op == api.ETrap:
		s.finish(api.EndTrap, int64(e.Imm))
		return
	case e.Op == api.ERet && len(a) == 0:
		s.finish(api.EndRet, 0)
		return
	case e.Op == api.ERet:
		s.finish(api.EndRet, a[0])
		return
	}
	to, ahead := e.To[leads(e, a)], maps.Clone(s.regs)
	for _, p := range s.m.Blocks[to].Phis {
		for _, in := range p.In {
			if in.From == s.block {
				s.regs[p.Dst] = ahead[in.Val]
			}
		}
	}
	s.block, s.place = to, 0
}

// step does one step, or ends the run for want of them.
func (s *second) step() {
	if s.out.Steps == max(s.in.Steps, 0) {
		s.finish(api.EndSteps, 0)
		return
	}
	s.out.Steps++
	b := s.m.Blocks[s.block]
	if s.place == len(b.Ins) {
		s.end(b.End)
		return
	}
	s.place++
	s.instruction(b.Ins[s.place-1])
}

// reckoned runs machine code a second time.
func reckoned(m api.MFunc, in api.Input) api.Outcome {
	if firstWrong(m) != (fault{}) {
		return api.Outcome{End: api.EndWrong}
	}
	s := &second{m: m, in: in, regs: map[int]int64{}}
	for n := range m.Params {
		if n < len(in.Args) {
			s.regs[n] = int64(in.Args[n])
		}
	}
	s.out.Mem = slices.Clone(in.Mem)
	if len(s.out.Mem) > 4096 {
		s.out.Mem = s.out.Mem[:4096]
	}
	for s.out.End == 0 {
		s.step()
	}
	return s.out
}
