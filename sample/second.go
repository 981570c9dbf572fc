package sample

import (
	"slices"

	"jacquard/api"
)

// Second is a run that is reckoned a second time, by layer 7's words: what has a word, by its number, and what has become of the run by then.
type Second struct {
	In    api.Input
	Words map[int]int64
	Out   api.Outcome
}

// Began is one ahead of its first step.
func Began(params int, in api.Input) Second {
	s := Second{In: in, Words: map[int]int64{}}
	for n := range params {
		if n < len(in.Args) {
			s.Words[n] = int64(in.Args[n])
		}
	}
	s.Out.Mem = slices.Clone(in.Mem)
	if len(s.Out.Mem) > 4096 {
		s.Out.Mem = s.Out.Mem[:4096]
	}
	return s
}

// Finish ends the run.
func (s *Second) Finish(how int, val int64) {
	s.Out.End, s.Out.Val = how, int32(val)
}

// Step counts one step more, or ends the run for want of it.
func (s *Second) Step() bool {
	if s.Out.Steps == max(s.In.Steps, 0) {
		s.Finish(api.EndSteps, 0)
		return false
	}
	s.Out.Steps++
	return true
}

// take is the words of registers.
func (s *Second) take(l []int) []int64 {
	var words []int64
	for _, r := range l {
		words = append(words, s.Words[r])
	}
	return words
}

// Do does an instruction of virtual registers.
func (s *Second) Do(i api.Mach) {
	makes, takes := Named(i)
	a := s.take(takes)
	if i.Op == api.MCall {
		s.call(i, a)
		return
	}
	x := Meaning(i, a, s.Out.Mem)
	if x.Trap != 0 {
		s.Finish(api.EndTrap, int64(x.Trap))
		return
	}
	if x.Stores {
		s.Out.Mem[x.At] = int32(x.Store)
	}
	for n, r := range makes {
		s.Words[r] = x.Made[n]
	}
}

// call does a call of operands.
func (s *Second) call(i api.Mach, a []int64) {
	e := api.Event{Callee: i.Imm}
	for _, w := range a {
		e.Args = append(e.Args, int32(w))
	}
	s.Words[i.D] = 0
	if calls := len(s.Out.Calls); calls < len(s.In.Answers) {
		s.Words[i.D] = int64(s.In.Answers[calls])
	}
	s.Out.Calls = append(s.Out.Calls, e)
}

// Leave does an end, and tells by which place of To it goes on; below 0: the run has ended.
func (s *Second) Leave(e api.End) int {
	a := s.take(Needed(e))
	switch {
	case e.Op == api.ETrap:
		s.Finish(api.EndTrap, int64(e.Imm))
		return -1
	case e.Op == api.ERet && len(a) == 0:
		s.Finish(api.EndRet, 0)
		return -1
	case e.Op == api.ERet:
		s.Finish(api.EndRet, a[0])
		return -1
	}
	return Leads(e, a)
}
