package sample

import (
	"maps"

	"jacquard/api"
)

// This is a second reading of chapter 15's words: what the places of a program have, of the virtual registers of the machine code that it was made of. Tests hold what gives registers, and what checks that, against it.

// Fact is that a place has a virtual register; or (place -1) that a constant was set.
type Fact struct{ Place, Reg int }

// Facts are all that is known at a point.
type Facts map[Fact]struct{}

// Placing is machine code, and a program that may have been made of it.
type Placing struct {
	M         api.MFunc
	P         api.PFunc
	constants map[int]int32
	begins    []Facts // of each block; nil: all that can be known
}

// placed are the places that an instruction of a program makes, takes and spoils.
func placed(i api.Mach) (makes, takes, spoils []int) {
	makes, takes = Named(i)
	switch i.Op {
	case api.MCall:
		spoils = []int{1, 2, 3}
	case api.MSld:
		takes = []int{16 + int(i.Imm)}
	case api.MSst:
		makes = []int{16 + int(i.Imm)}
	}
	return makes, takes, spoils
}

// Constants are the virtual registers that are constant, and which numbers they are.
func Constants(m api.MFunc) map[int]int32 {
	all, not := map[int]int32{}, map[int]int{}
	for r := range m.Params {
		not[r]++
	}
	for _, b := range m.Blocks {
		for _, p := range b.Phis {
			not[p.Dst]++
		}
		for _, i := range b.Ins {
			makes, _ := Named(i)
			for _, r := range makes {
				was, again := all[r]
				if i.Op != api.MLi && i.Op != api.MLiw || again && was != i.Imm {
					not[r]++
				}
				all[r] = i.Imm
			}
		}
	}
	maps.DeleteFunc(all, func(r int, _ int32) bool { return not[r] > 0 })
	return all
}

// isLaid tells whether an instruction may be laid in between.
func isLaid(op int) bool {
	return 1 <= op && op <= 4 || op == api.MSld || op == api.MSst
}

// mayMiss tells whether an instruction may be left out.
func (x Placing) mayMiss(i api.Mach) bool {
	_, constant := x.constants[i.D]
	return i.Op == api.MMov || (i.Op == api.MLi || i.Op == api.MLiw) && constant
}

// missed are the numbers of those that are left out between two.
func missed(last, next int) []int {
	var l []int
	for n := last + 1; n < next; n++ {
		l = append(l, n)
	}
	return l
}

// matches tells whether an instruction of a block, behind one that stands for the last, may stand there.
func (x Placing) matches(b, last int, i api.Placed) bool {
	ins := x.M.Blocks[b].Ins
	if i.From < 0 {
		return isLaid(i.I.Op)
	}
	if i.From >= len(ins) || i.From <= last || !x.mayMissAll(b, missed(last, i.From)) {
		return false
	}
	of := ins[i.From]
	return of.Op == i.I.Op && of.Imm == i.I.Imm && (of.Op != api.MCall || len(of.Args) == len(i.I.Args))
}

// mayMissAll tells whether all these may be.
func (x Placing) mayMissAll(b int, l []int) bool {
	for _, n := range l {
		if !x.mayMiss(x.M.Blocks[b].Ins[n]) {
			return false
		}
	}
	return true
}

// endMatches tells whether the end of a block may stand there.
func (x Placing) endMatches(b, last int) bool {
	e, of := x.P.Blocks[b].End, x.M.Blocks[b].End
	if !x.mayMissAll(b, missed(last, len(x.M.Blocks[b].Ins))) || e.Op != of.Op || e.Imm != of.Imm || len(e.To) != len(of.To) {
		return false
	}
	for n, to := range of.To {
		if e.To[n] != to {
			return false
		}
	}
	return e.Op != api.ERet || (e.A < 0) == (of.A < 0)
}

// Unmatched is the first place of the program where something stands that does not match; false: there is none.
func (x Placing) Unmatched() (block, place int, ok bool) {
	for b, y := range x.P.Blocks {
		last := -1
		for n, i := range y.Ins {
			if !x.matches(b, last, i) {
				return b, n, true
			}
			last = max(last, i.From)
		}
		if !x.endMatches(b, last) {
			return b, len(y.Ins), true
		}
	}
	return 0, 0, false
}

// clear is a place that has nothing any more.
func (f Facts) clear(place int) {
	maps.DeleteFunc(f, func(x Fact, _ struct{}) bool { return x.Place == place })
}

// lose is a virtual register that no place has any more.
func (f Facts) lose(reg int) {
	maps.DeleteFunc(f, func(x Fact, _ struct{}) bool { return x.Place >= 0 && x.Reg == reg })
}

// of are the virtual registers that a place has.
func (f Facts) of(place int) []int {
	var l []int
	for x := range f {
		if x.Place == place {
			l = append(l, x.Reg)
		}
	}
	return l
}

// put is a place that has just these.
func (f Facts) put(place int, l []int) {
	f.clear(place)
	for _, r := range l {
		f[Fact{place, r}] = struct{}{}
	}
}

// has tells whether a place has a virtual register.
func (f Facts) has(place, reg int) bool {
	_, ok := f[Fact{place, reg}]
	return ok
}

// numbers are all constants of a number that were set.
func (x Placing) numbers(f Facts, n int32) []int {
	var l []int
	for _, r := range f.of(-1) {
		if x.constants[r] == n {
			l = append(l, r)
		}
	}
	return l
}

// between is what is known behind an instruction that is laid in between.
func (x Placing) between(f Facts, i api.Mach) {
	makes, takes, _ := placed(i)
	switch i.Op {
	case api.MSwap:
		a, b := f.of(i.A), f.of(i.B)
		f.put(i.A, b)
		f.put(i.B, a)
	case api.MLi, api.MLiw:
		f.put(i.D, x.numbers(f, i.Imm))
	default:
		f.put(makes[0], f.of(takes[0]))
	}
}

// miss is what is known behind one that is left out.
func (x Placing) miss(f Facts, i api.Mach) {
	if i.Op != api.MMov {
		f[Fact{-1, i.D}] = struct{}{}
		return
	}
	var at []int
	for y := range f {
		if y.Place >= 0 && y.Reg == i.A {
			at = append(at, y.Place)
		}
	}
	f.lose(i.D)
	for _, place := range at {
		f[Fact{place, i.D}] = struct{}{}
	}
}

// stand is what is known behind one that stands for another one.
func (x Placing) stand(f Facts, i, of api.Mach) {
	_, constant := x.constants[of.D]
	switch {
	case i.Op == api.MMov:
		x.miss(f, of)
		f.put(i.D, f.of(i.A))
		return
	case (i.Op == api.MLi || i.Op == api.MLiw) && constant:
		f.lose(of.D)
		f[Fact{-1, of.D}] = struct{}{}
		f.put(i.D, x.numbers(f, i.Imm))
		return
	}
	regs, _ := Named(of)
	places, _, spoils := placed(i)
	for _, r := range regs {
		f.lose(r)
	}
	for n, place := range places {
		f.put(place, regs[n:n+1])
	}
	for _, place := range spoils {
		f.clear(place)
	}
}

// Over goes over the places of a block, with what is known ahead of each; it tells what is known behind its end.
func (x Placing) Over(b int, look func(place int, f Facts)) Facts {
	f := maps.Clone(x.begins[b])
	ins, last := x.M.Blocks[b].Ins, -1
	// What is left out comes directly behind the one that stands for the last one ahead of it.
	behind := func(at int) {
		next := len(ins)
		for _, i := range x.P.Blocks[b].Ins[at:] {
			if i.From >= 0 {
				next = i.From
				break
			}
		}
		for _, n := range missed(last, next) {
			x.miss(f, ins[n])
		}
	}
	behind(0)
	for place, i := range x.P.Blocks[b].Ins {
		look(place, f)
		if i.From < 0 {
			x.between(f, i.I)
			continue
		}
		x.stand(f, i.I, ins[i.From])
		last = i.From
		behind(place + 1)
	}
	look(len(x.P.Blocks[b].Ins), f)
	return f
}

// along is what is known along an edge.
func (x Placing) along(f Facts, from, to int) Facts {
	g := maps.Clone(f)
	for _, p := range x.M.Blocks[to].Phis {
		g.lose(p.Dst)
	}
	for _, p := range x.M.Blocks[to].Phis {
		for _, in := range p.In {
			for y := range f {
				if in.From == from && y.Place >= 0 && y.Reg == in.Val {
					g[Fact{y.Place, p.Dst}] = struct{}{}
				}
			}
		}
	}
	return g
}

// Settle finds all that can be known where blocks begin.
func (x *Placing) Settle() {
	x.begins = make([]Facts, len(x.M.Blocks))
	x.begins[0] = Facts{}
	for r := range x.M.Params {
		x.begins[0][Fact{r, r}] = struct{}{}
	}
	for again := true; again; {
		again = false
		for b, y := range x.M.Blocks {
			if x.begins[b] == nil {
				continue
			}
			behind := x.Over(b, func(int, Facts) {})
			for _, to := range y.End.To {
				again = x.meet(to, x.along(behind, b, to)) || again
			}
		}
	}
}

// meet keeps of what is known where a block begins what is known along one more edge, and tells whether it was more.
func (x *Placing) meet(b int, f Facts) bool {
	if x.begins[b] == nil {
		x.begins[b] = f
		return true
	}
	count := len(x.begins[b])
	maps.DeleteFunc(x.begins[b], func(y Fact, _ struct{}) bool {
		_, ok := f[y]
		return !ok
	})
	return len(x.begins[b]) < count
}

// misplaced tells whether one of places does not have the virtual register that is taken there.
func misplaced(f Facts, places, regs []int) bool {
	for n, place := range places {
		if !f.has(place, regs[n]) {
			return true
		}
	}
	return false
}

// Misplaced is the first place where something is taken that is not had there; false: there is none.
func (x Placing) Misplaced() (block, place int, ok bool) {
	for b, y := range x.P.Blocks {
		x.Over(b, func(n int, f Facts) {
			var places, regs []int
			if n == len(y.Ins) {
				places, regs = Needed(y.End), Needed(x.M.Blocks[b].End)
			} else if from := y.Ins[n].From; from >= 0 {
				_, places, _ = placed(y.Ins[n].I)
				_, regs = Named(x.M.Blocks[b].Ins[from])
			}
			if !ok && misplaced(f, places, regs) {
				block, place, ok = b, n, true
			}
		})
	}
	return block, place, ok
}

// PlacingOf is machine code that may be, and a program that may be: what is wrong with their matching first; and if nothing is, what is known.
func PlacingOf(m api.MFunc, p api.PFunc) (x Placing, e api.Errno, block, place int) {
	x = Placing{M: m, P: p, constants: Constants(m)}
	if m.Params != p.Params || len(m.Blocks) != len(p.Blocks) {
		return x, api.ErrMatch, 0, 0
	}
	if block, place, bad := x.Unmatched(); bad {
		return x, api.ErrMatch, block, place
	}
	x.Settle()
	if block, place, bad := x.Misplaced(); bad {
		return x, api.ErrPlace, block, place
	}
	return x, api.OK, 0, 0
}
