package interp_test

import (
	"maps"
	"slices"

	"jacquard/api"
	"jacquard/check"
)

// second is a run by the document's words, in numbers of 64 bits: one step after the other, each told by block and place.
type second struct {
	f            api.Func
	in           api.Input
	vals         map[int]int64
	block, place int
	stored       map[int]bool
	out          api.Outcome
}

// round is what a number goes round to.
func round(n int64) int64 {
	const all = int64(1) << 32
	n = (n%all + all) % all
	if n >= all/2 {
		n -= all
	}
	return n
}

// unsigned is a word without its sign.
func unsigned(n int64) int64 {
	if n < 0 {
		return n + int64(1)<<32
	}
	return n
}

// one is 1, if something is so, else 0.
func one(so bool) int64 {
	if so {
		return 1
	}
	return 0
}

// reckon is a word by an operation of two others (Div by 0 is not asked for).
func reckon(op int, a, b int64) int64 {
	places := unsigned(b) % 32
	power := int64(1) << places
	switch op {
	case api.Add:
		return round(a + b)
	case api.Sub:
		return round(a - b)
	case api.Mul:
		return round(a * b)
	case api.And:
		return round(unsigned(a) & unsigned(b))
	case api.Or:
		return round(unsigned(a) | unsigned(b))
	case api.Xor:
		return round(unsigned(a) ^ unsigned(b))
	case api.Shl:
		return round(unsigned(a) % (int64(1) << (32 - places)) * power)
	case api.Shr:
		return round(unsigned(a) / power)
	case api.Sar:
		// Down to the number below, as the bits of numbers below 0 go.
		return (a - ((a%power)+power)%power) / power
	case api.Eq:
		return one(a == b)
	case api.Lt:
		return one(a < b)
	case api.Ltu:
		return one(unsigned(a) < unsigned(b))
	}
	return round(a / b)
}

// end ends the run.
func (s *second) end(how int, val int64) {
	s.out.End, s.out.Val = how, int32(val)
}

// operand is the word of the operand at a place of a row.
func (s *second) operand(row []int, n int) int64 {
	return s.vals[row[n]]
}

// memory does a Load or a Store.
func (s *second) memory(i api.Ins) {
	at := round(s.operand(i.Args, 0) + int64(i.Imm))
	switch {
	case at < 0 || at >= int64(len(s.out.Mem)):
		s.end(api.EndTrap, api.TrapMem)
	case i.Op == api.Load:
		s.vals[i.Dst] = int64(s.out.Mem[at])
	default:
		s.out.Mem[at] = int32(s.operand(i.Args, 1))
		s.stored[int(at)] = true
	}
}

// instruction does one.
func (s *second) instruction(i api.Ins) {
	switch i.Op {
	case api.Const:
		s.vals[i.Dst] = int64(i.Imm)
	case api.Load, api.Store:
		s.memory(i)
	case api.Mulw:
		product := s.operand(i.Args, 0) * s.operand(i.Args, 1)
		low := round(product)
		s.vals[i.Dst], s.vals[i.Two] = low, (product-unsigned(low))/(int64(1)<<32)
	case api.Call:
		e := api.Event{Callee: i.Imm}
		for n := range i.Args {
			e.Args = append(e.Args, int32(s.operand(i.Args, n)))
		}
		s.vals[i.Dst] = 0
		if calls := len(s.out.Calls); calls < len(s.in.Answers) {
			s.vals[i.Dst] = int64(s.in.Answers[calls])
		}
		s.out.Calls = append(s.out.Calls, e)
	default:
		a, b := s.operand(i.Args, 0), s.operand(i.Args, 1)
		if i.Op == api.Div && b == 0 {
			s.end(api.EndTrap, api.TrapDiv)
			return
		}
		s.vals[i.Dst] = reckon(i.Op, a, b)
	}
}

// goTo lets control come to a block: all phis take what was so ahead of it.
func (s *second) goTo(to int) {
	ahead := maps.Clone(s.vals)
	for _, p := range s.f.Blocks[to].Phis {
		for _, in := range p.In {
			if in.From == s.block {
				s.vals[p.Dst] = ahead[in.Val]
			}
		}
	}
	s.block, s.place = to, 0
}

// term does one.
func (s *second) term(t api.Term) {
	switch t.Kind {
	case api.Jump:
		s.goTo(t.To[0])
	case api.Branch:
		if s.operand(t.Args, 0) != 0 {
			s.goTo(t.To[0])
		} else {
			s.goTo(t.To[1])
		}
	case api.Switch:
		last := len(t.To) - 1
		for n := range t.To[:last] {
			if unsigned(s.operand(t.Args, 0)) == int64(n) {
				s.goTo(t.To[n])
				return
			}
		}
		s.goTo(t.To[last])
	case api.Ret:
		if len(t.Args) == 0 {
			s.end(api.EndRet, 0)
		} else {
			s.end(api.EndRet, s.operand(t.Args, 0))
		}
	case api.Trap:
		s.end(api.EndTrap, int64(t.Imm))
	}
}

// step does one step, or ends the run for want of them.
func (s *second) step() {
	if s.out.Steps == max(s.in.Steps, 0) {
		s.end(api.EndSteps, 0)
		return
	}
	s.out.Steps++
	b := s.f.Blocks[s.block]
	if s.place == len(b.Ins) {
		s.term(b.Term)
		return
	}
	s.place++
	s.instruction(b.Ins[s.place-1])
}

// reckoned runs a function that may be a second time; it tells, too, which words were stored to.
func reckoned(f api.Func, in api.Input) (api.Outcome, map[int]bool) {
	s := &second{f: f, in: in, vals: map[int]int64{}, stored: map[int]bool{}}
	if !check.Right(f) {
		return api.Outcome{End: api.EndWrong}, s.stored
	}
	for v := range f.Params {
		if v < len(in.Args) {
			s.vals[v] = int64(in.Args[v])
		}
	}
	s.out.Mem = slices.Clone(in.Mem)
	if len(s.out.Mem) > api.MaxMem {
		s.out.Mem = s.out.Mem[:api.MaxMem]
	}
	for s.out.End == 0 {
		s.step()
	}
	return s.out, s.stored
}
