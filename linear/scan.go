package linear

import "slices"

// scan gives registers of code, from one up to another one (without that), to lives.
type scan struct {
	code
	first, last int
	homes       map[int]home
	active      []life // those that have a register at the place that was come to
}

// newScan is one of which none has got a register yet.
func newScan(c code, first, last int) *scan {
	return &scan{code: c, first: first, last: last, homes: make(map[int]home)}
}

// give goes over lives, by where they begin. Where registers are too few, the life that ends last goes without.
func (s *scan) give(lives []life) {
	for _, l := range lives {
		over := func(a life) bool { return a.to <= l.from }
		s.active = slices.DeleteFunc(s.active, over)
		if r := s.free(l); r >= 0 {
			s.settle(l, r)
		} else if n := s.loser(l); n >= 0 {
			s.settle(l, s.leave(n))
		}
	}
}

// settle gives a register to a life.
func (s *scan) settle(l life, r int) {
	s.homes[l.reg] = home{place: r}
	s.active = append(s.active, l)
}

// leave takes the register of one of those that have one, from its beginning on.
func (s *scan) leave(n int) int {
	reg := s.active[n].reg
	r := s.homes[reg].place
	delete(s.homes, reg)
	s.active = slices.Delete(s.active, n, n+1)
	return r
}

// free is a register that a life may have, at best one that it wishes; below 0: there is none.
func (s *scan) free(l life) int {
	for _, w := range s.wishes[l.reg] {
		if r := s.wished(w); s.suits(l, r) && !s.isTaken(r) {
			return r
		}
	}
	for r := s.first; r < s.last; r++ {
		if s.suits(l, r) && !s.isTaken(r) {
			return r
		}
	}
	return -1
}

// wished is the register of a wish; below 0: there is none.
func (s *scan) wished(w wish) int {
	if w.register >= 0 {
		return w.register
	}
	if h, ok := s.homes[w.of]; ok {
		return h.place
	}
	return -1
}

// suits tells whether a life may have a register, if no other one has it.
func (s *scan) suits(l life, r int) bool {
	return s.first <= r && r < s.last && !l.crosses(s.spoilt[r])
}

// isTaken tells whether a register is another one's by now.
func (s *scan) isTaken(r int) bool {
	has := func(a life) bool { return s.homes[a.reg].place == r }
	return slices.ContainsFunc(s.active, has)
}

// loser is which of those that have a register ends last, and behind a life; below 0: there is none. (As it has all places that the life has, its register suits that, too.)
func (s *scan) loser(l life) int {
	last, to := -1, l.to
	for n, a := range s.active {
		if a.to > to {
			last, to = n, a.to
		}
	}
	return last
}
