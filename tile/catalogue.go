package tile

import (
	"math"
	"slices"

	"jacquard/api"
)

// The numbers of the patterns; none is for a Jump, Ret or Trap, which needs no tile.
const (
	none = iota
	li
	liw
	add
	sub
	mul
	and
	or
	xor
	shl
	shr
	sar
	eq
	lt
	ltu
	div
	addi
	subi
	andi
	shli
	shri
	sari
	madd
	ld
	lda
	ldx
	ldl
	st
	sta
	stx
	stl
	call
	mulw
	bnz
	beq
	blt
	bltu
	jt
)

// entry is what the catalogue has of a pattern: its name, what its tile costs in the table of all, and the operation, or the kind of terms, that it may fit.
type entry struct {
	name           string
	cost, op, kind int
}

var catalogue = [...]entry{
	none: {},
	li:   {"li", 1, api.Const, 0},
	liw:  {"liw", 2, api.Const, 0},
	add:  {"add", 1, api.Add, 0},
	sub:  {"sub", 1, api.Sub, 0},
	mul:  {"mul", 3, api.Mul, 0},
	and:  {"and", 1, api.And, 0},
	or:   {"or", 1, api.Or, 0},
	xor:  {"xor", 1, api.Xor, 0},
	shl:  {"shl", 1, api.Shl, 0},
	shr:  {"shr", 1, api.Shr, 0},
	sar:  {"sar", 1, api.Sar, 0},
	eq:   {"eq", 1, api.Eq, 0},
	lt:   {"lt", 1, api.Lt, 0},
	ltu:  {"ltu", 1, api.Ltu, 0},
	div:  {"div", 12, api.Div, 0},
	addi: {"addi", 1, api.Add, 0},
	subi: {"subi", 1, api.Sub, 0},
	andi: {"andi", 1, api.And, 0},
	shli: {"shli", 1, api.Shl, 0},
	shri: {"shri", 1, api.Shr, 0},
	sari: {"sari", 1, api.Sar, 0},
	madd: {"madd", 3, api.Add, 0},
	ld:   {"ld", 2, api.Load, 0},
	lda:  {"lda", 2, api.Load, 0},
	ldx:  {"ldx", 2, api.Load, 0},
	ldl:  {"ldl", 4, api.Load, 0},
	st:   {"st", 1, api.Store, 0},
	sta:  {"sta", 1, api.Store, 0},
	stx:  {"stx", 1, api.Store, 0},
	stl:  {"stl", 3, api.Store, 0},
	call: {"call", 6, api.Call, 0},
	mulw: {"mulw", 4, api.Mulw, 0},
	bnz:  {"bnz", 1, 0, api.Branch},
	beq:  {"beq", 1, 0, api.Branch},
	blt:  {"blt", 1, 0, api.Branch},
	bltu: {"bltu", 1, 0, api.Branch},
	jt:   {"jt", 2, 0, api.Switch},
}

// laid is what a pattern comes to at a place.
type laid struct {
	takes, inner []int
	code         []api.Mach
	end          api.End
}

// pattern lays a tile at a site that suits it, if it fits there.
type pattern func(s site) (laid, bool)

// patterns are all of them, by their numbers.
func patterns() map[int]pattern {
	all := map[int]pattern{
		none: plainEnd,
		li:   constant(api.MLi, math.MinInt16, math.MaxInt16),
		liw:  constant(api.MLiw, math.MinInt32, math.MaxInt32),
		addi: byConst(api.MAddI, -128, 127, 1),
		subi: byConst(api.MAddI, -127, 128, -1),
		andi: byConst(api.MAndI, -128, 127, 1),
		shli: byConst(api.MShlI, 0, 31, 1),
		shri: byConst(api.MShrI, 0, 31, 1),
		sari: byConst(api.MSarI, 0, 31, 1),
		madd: multiplied,
		ld:   direct,
		lda:  moved,
		ldx:  indexed,
		ldl:  distant,
		st:   direct,
		sta:  moved,
		stx:  indexed,
		stl:  distant,
		call: called,
		mulw: wide,
		bnz:  byValue(api.EBnz),
		beq:  byCompare(api.Eq, api.EBeq),
		blt:  byCompare(api.Lt, api.EBlt),
		bltu: byCompare(api.Ltu, api.EBltu),
		jt:   byValue(api.EJt),
	}
	for n := range div - add + 1 {
		all[add+n] = ofTwo(api.MAdd + n)
	}
	return all
}

// constant is a Const from a number up to another.
func constant(op int, from, to int32) pattern {
	return func(s site) (laid, bool) {
		if s.ins.Imm < from || s.ins.Imm > to {
			return laid{}, false
		}
		return laid{code: []api.Mach{{Op: op, D: s.ins.Dst, Imm: s.ins.Imm}}}, true
	}
}

// ofTwo is an instruction of two values, whatever they are.
func ofTwo(op int) pattern {
	return func(s site) (laid, bool) {
		a, b := s.args[0], s.args[1]
		return laid{
			takes: []int{a, b},
			code:  []api.Mach{{Op: op, D: s.ins.Dst, A: a, B: b}},
		}, true
	}
}

// byConst is an instruction of a value, and a Const from a number up to another.
func byConst(op int, from, to, sign int32) pattern {
	return func(s site) (laid, bool) {
		a, c := s.args[0], s.args[1]
		k, ok := s.inner(c, api.Const)
		if !ok || k.Imm < from || k.Imm > to {
			return laid{}, false
		}
		return laid{
			takes: []int{a},
			inner: []int{c},
			code:  []api.Mach{{Op: op, D: s.ins.Dst, A: a, Imm: sign * k.Imm}},
		}, true
	}
}

// multiplied is an Add of a Mul.
func multiplied(s site) (laid, bool) {
	m, ok := s.inner(s.args[0], api.Mul)
	if !ok {
		return laid{}, false
	}
	x, y, z := m.Args[0], m.Args[1], s.args[1]
	return laid{
		takes: []int{x, y, z},
		inner: []int{m.Dst},
		code:  []api.Mach{{Op: api.MMadd, D: s.ins.Dst, A: x, B: y, C: z}},
	}, true
}

// isNear tells whether a Load, or Store, can add a number to its address.
func isNear(n int64) bool {
	return 0 <= n && n <= 255
}

// direct is a Load, or Store, near an address.
func direct(s site) (laid, bool) {
	if !isNear(int64(s.ins.Imm)) {
		return laid{}, false
	}
	a := s.args[0]
	return laid{takes: s.at(a), code: []api.Mach{s.near(a, s.ins.Imm)}}, true
}

// moved is a Load, or Store, near an address that a Const was added to.
func moved(s site) (laid, bool) {
	sum, ok := s.inner(s.args[0], api.Add)
	if !ok {
		return laid{}, false
	}
	x, c := sum.Args[0], sum.Args[1]
	k, ok := s.inner(c, api.Const)
	if !ok || !isNear(int64(k.Imm)+int64(s.ins.Imm)) {
		return laid{}, false
	}
	return laid{
		takes: s.at(x),
		inner: []int{sum.Dst, c},
		code:  []api.Mach{s.near(x, k.Imm+s.ins.Imm)},
	}, true
}

// indexed is a Load, or Store, at an address that is a sum.
func indexed(s site) (laid, bool) {
	sum, ok := s.inner(s.args[0], api.Add)
	if !ok || s.ins.Imm != 0 {
		return laid{}, false
	}
	x, y := sum.Args[0], sum.Args[1]
	return laid{takes: s.at(x, y), inner: []int{sum.Dst}, code: []api.Mach{s.far(x, y)}}, true
}

// distant is a Load, or Store, however far from an address: its number goes through a temp.
func distant(s site) (laid, bool) {
	a := s.args[0]
	return laid{
		takes: s.at(a),
		code:  []api.Mach{{Op: api.MLiw, D: s.temp, Imm: s.ins.Imm}, s.far(a, s.temp)},
	}, true
}

// called is a Call.
func called(s site) (laid, bool) {
	return laid{
		takes: slices.Clone(s.args),
		code:  []api.Mach{{Op: api.MCall, D: s.ins.Dst, Imm: s.ins.Imm, Args: slices.Clone(s.args)}},
	}, true
}

// wide is a Mulw.
func wide(s site) (laid, bool) {
	a, b := s.args[0], s.args[1]
	return laid{
		takes: []int{a, b},
		code:  []api.Mach{{Op: api.MMulw, D: s.ins.Dst, E: s.ins.Two, A: a, B: b}},
	}, true
}

// byValue is a term that goes by a value, whatever it is.
func byValue(op int) pattern {
	return func(s site) (laid, bool) {
		v := s.args[0]
		return laid{takes: []int{v}, end: s.end(op, v, 0)}, true
	}
}

// byCompare is a term that goes by how two values compare.
func byCompare(op, end int) pattern {
	return func(s site) (laid, bool) {
		e, ok := s.inner(s.args[0], op)
		if !ok {
			return laid{}, false
		}
		x, y := e.Args[0], e.Args[1]
		return laid{takes: []int{x, y}, inner: []int{e.Dst}, end: s.end(end, x, y)}, true
	}
}

// plainEnd is a Jump, a Ret, or a Trap.
func plainEnd(s site) (laid, bool) {
	switch s.term.Kind {
	case api.Jump:
		return laid{end: s.end(api.EJ, 0, 0)}, true
	case api.Trap:
		return laid{end: api.End{Op: api.ETrap, Imm: s.term.Imm}}, true
	}
	end := api.End{Op: api.ERet, A: -1}
	if len(s.args) > 0 {
		end.A = s.args[0]
	}
	return laid{takes: slices.Clone(s.args), end: end}, true
}
