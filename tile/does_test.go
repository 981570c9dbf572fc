package tile_test

import (
	"maps"
	"reflect"
	"slices"
	"testing"

	"jacquard/api"
	"jacquard/check"
	"jacquard/interp"
	"jacquard/sample"
	"jacquard/tile"
	"jacquard/word"
)

// state is what instructions, of functions or of the machine, work on.
type state struct {
	vals   map[int]int32
	mem    []int32
	answer int32 // of the next call
	calls  []api.Event
	trap   int32
}

// begun is a state with such values.
func begun(vals map[int]int32, mem []int32, answer int32) *state {
	return &state{vals: maps.Clone(vals), mem: slices.Clone(mem), answer: answer}
}

// load is the word at an address.
func (s *state) load(dst int, at int32) {
	v, ok := interp.Load(s.mem, at)
	if !ok {
		s.trap = api.TrapMem
		return
	}
	s.vals[dst] = v
}

// store stores a word at an address.
func (s *state) store(at, v int32) {
	if !interp.Store(s.mem, at, v) {
		s.trap = api.TrapMem
	}
}

// do reckons.
func (s *state) do(op, dst int, a, b int32) {
	v, ok := word.Do(op, a, b)
	if !ok {
		s.trap = api.TrapDiv
		return
	}
	s.vals[dst] = v
}

// call calls.
func (s *state) call(dst int, callee int32, args []int) {
	e := api.Event{Callee: callee}
	for _, v := range args {
		e.Args = append(e.Args, s.vals[v])
	}
	s.calls = append(s.calls, e)
	s.vals[dst] = s.answer
}

// instruction does one of a function.
func (s *state) instruction(i api.Ins) {
	var a, b int32
	if len(i.Args) > 0 {
		a = s.vals[i.Args[0]]
	}
	if len(i.Args) > 1 {
		b = s.vals[i.Args[1]]
	}
	switch i.Op {
	case api.Const:
		s.vals[i.Dst] = i.Imm
	case api.Load:
		s.load(i.Dst, a+i.Imm)
	case api.Store:
		s.store(a+i.Imm, b)
	case api.Call:
		s.call(i.Dst, i.Imm, i.Args)
	case api.Mulw:
		s.vals[i.Dst], s.vals[i.Two] = word.Wide(a, b)
	default:
		s.do(i.Op, i.Dst, a, b)
	}
}

// machine does one of the machine.
func (s *state) machine(i api.Mach) {
	a, b, c := s.vals[i.A], s.vals[i.B], s.vals[i.C]
	switch i.Op {
	case api.MLi, api.MLiw:
		s.vals[i.D] = i.Imm
	case api.MAddI:
		s.do(api.Add, i.D, a, i.Imm)
	case api.MAndI:
		s.do(api.And, i.D, a, i.Imm)
	case api.MShlI, api.MShrI, api.MSarI:
		s.do(i.Op-api.MShlI+api.Shl, i.D, a, i.Imm)
	case api.MMadd:
		s.vals[i.D] = a*b + c
	case api.MLd:
		s.load(i.D, a+i.Imm)
	case api.MLdX:
		s.load(i.D, a+b)
	case api.MSt:
		s.store(a+i.Imm, b)
	case api.MStX:
		s.store(a+b, c)
	case api.MCall:
		s.call(i.D, i.Imm, i.Args)
	case api.MMulw:
		s.vals[i.D], s.vals[i.E] = word.Wide(a, b)
	default:
		s.do(i.Op-api.MAdd+api.Add, i.D, a, b)
	}
}

// first is 0, if something is so, else 1: the place of where it goes.
func first(so bool) int {
	if so {
		return 0
	}
	return 1
}

// entry is the place of where a table goes.
func entry(v int32, to []int) int {
	return int(min(uint32(v), uint32(len(to)-1)))
}

// goes is the place in To of where a term goes.
func (s *state) goes(t api.Term) int {
	if v := s.vals[t.Args[0]]; t.Kind == api.Switch {
		return entry(v, t.To)
	}
	return first(s.vals[t.Args[0]] != 0)
}

// ends is the place in To of where an end goes.
func (s *state) ends(e api.End) int {
	a, b := s.vals[e.A], s.vals[e.B]
	switch e.Op {
	case api.EBnz:
		return first(a != 0)
	case api.EBeq:
		return first(a == b)
	case api.EBlt:
		return first(a < b)
	case api.EBltu:
		return first(uint32(a) < uint32(b))
	}
	return entry(a, e.To)
}

// value is a word, an address now and then.
func value(next func(int) int) int32 {
	if next(3) > 0 {
		return int32(next(70)) - 4
	}
	return int32(uint32(next(1<<16))<<16 | uint32(next(1<<16)))
}

// does holds what a pattern's code does at a place against what the instruction does there, with those inside; it tells whether it traps.
func does(t *testing.T, next func(int) int, f api.Func, block, place, pat int, x told) bool {
	t.Helper()
	const temp = 9999
	vals := map[int]int32{}
	for v := range check.Top(f) {
		vals[v] = value(next)
	}
	mem := make([]int32, 40+next(300))
	for n := range mem {
		mem[n] = value(next)
	}
	answer := value(next)
	whole, code := begun(vals, mem, answer), begun(nil, mem, answer)
	code.vals = map[int]int32{}
	for _, v := range x.takes {
		code.vals[v] = vals[v]
	}
	b := f.Blocks[block]
	for _, i := range b.Ins[:place] {
		if slices.Contains(x.inner, i.Dst) && i.Op != api.Store {
			whole.instruction(i)
		}
	}
	if place == len(b.Ins) {
		if was, is := whole.goes(b.Term), code.ends(x.end); was != is || !slices.Equal(b.Term.To, x.end.To) {
			t.Fatalf("%v: %s at %d, %d: to %d, not %d", f, tile.Name(pat), block, place, is, was)
		}
		return false
	}
	whole.instruction(b.Ins[place])
	for _, m := range x.code {
		if code.trap == 0 {
			code.machine(m)
		}
	}
	same := whole.trap == code.trap && slices.Equal(whole.mem, code.mem) && reflect.DeepEqual(whole.calls, code.calls)
	for v, is := range code.vals {
		same = same && (v == temp || whole.vals[v] == is)
	}
	if i := b.Ins[place]; whole.trap == 0 && i.Op != api.Store {
		_, one := code.vals[i.Dst]
		_, other := code.vals[i.Two]
		same = same && one && (other || i.Op != api.Mulw)
	}
	if !same {
		t.Fatalf("%v: %s at %d, %d: %v, not %v", f, tile.Name(pat), block, place, code, whole)
	}
	return whole.trap != 0
}

// TestDoes: the machine code of a tile, given what it takes, makes what the instruction does, with those inside (P6.7).
func TestDoes(t *testing.T) {
	next, runs, traps := sample.Numbers(41), make([]int, 38), make([]int, 38)
	for _, f := range sample.Folded(43, 2000) {
		for b := range f.Blocks {
			for place := range len(f.Blocks[b].Ins) + 1 {
				for pat := 1; pat <= 37; pat++ {
					x, _ := asked(f, b, place, pat, 9999)
					if !x.ok {
						continue
					}
					runs[pat]++
					if does(t, next, f, b, place, pat, x) {
						traps[pat]++
					}
				}
			}
		}
	}
	for pat := 1; pat <= 37; pat++ {
		if runs[pat]-traps[pat] < 20 {
			t.Errorf("%s: only %d, %d of them with traps", tile.Name(pat), runs[pat], traps[pat])
		}
	}
}
