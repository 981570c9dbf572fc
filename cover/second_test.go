package cover_test

import (
	"fmt"
	"slices"

	"jacquard/api"
	"jacquard/check"
	"jacquard/mach"
	"jacquard/tile"
)

// verdict is what is told of machine code.
type verdict struct {
	e            api.Errno
	block, place int
}

// alike tells whether two are written the same: rows without items are, nil or empty.
func alike(a, b any) bool { return fmt.Sprint(a) == fmt.Sprint(b) }

// seconder holds machine code against a function by the document's words: each question is asked of the whole function.
type seconder struct {
	f     api.Func
	l     []api.Tile
	m     api.MFunc
	roots map[[2]int]bool // by blocks and places
	inner map[int]bool    // by values
	cost  int
}

// second tells what Check must (P9.1).
func second(f api.Func, l []api.Tile, m api.MFunc, cost int) verdict {
	if e, _ := tile.Check(l); e != api.OK {
		return verdict{e: e}
	}
	if !check.Right(f) || !mach.Right(m) {
		return verdict{e: api.ErrArg}
	}
	if f.Params != m.Params || len(f.Blocks) != len(m.Blocks) {
		return verdict{e: api.ErrMatch}
	}
	s := seconder{f, l, m, map[[2]int]bool{}, map[int]bool{}, 0}
	for b := range f.Blocks {
		if v := s.block(b); v.e != api.OK {
			return v
		}
	}
	for b := range f.Blocks {
		for place, i := range f.Blocks[b].Ins {
			root, inner := s.roots[[2]int{b, place}], s.inner[i.Dst]
			if s.foldable(b, place) && (root && inner || !root && !inner) {
				return verdict{api.ErrUse, b, place}
			}
		}
	}
	if cost != s.cost {
		return verdict{e: api.ErrCost}
	}
	return verdict{}
}

// foldable tells whether an instruction's value is.
func (s *seconder) foldable(b, place int) bool {
	i := s.f.Blocks[b].Ins[place]
	return i.Op != api.Store && check.Foldable(s.f, i.Dst)
}

// block holds a block's machine code against it.
func (s *seconder) block(b int) verdict {
	its, by := s.f.Blocks[b], s.m.Blocks[b]
	if !alike(its.Phis, by.Phis) {
		return verdict{api.ErrMatch, b, -1}
	}
	behind := 0
	for place, i := range its.Ins {
		next := by.Ins[behind:]
		if s.foldable(b, place) && (len(next) == 0 || !slices.Contains(mach.Makes(next[0]), i.Dst)) {
			continue
		}
		temp := 0
		if len(next) > 0 {
			temp = next[0].D
		}
		count := 0
		pats := s.tiles(b, place, temp, func(code []api.Mach, _ api.End) bool {
			ok := len(code) <= len(next) && alike(code, next[:len(code)])
			if ok {
				count = len(code)
			}
			return ok
		})
		if len(pats) == 0 {
			return verdict{api.ErrCover, b, place}
		}
		if (pats[0] == 26 || pats[0] == 30) && s.taken(b, behind, temp) {
			return verdict{api.ErrReg, b, place}
		}
		s.root(b, place, pats)
		behind += count
	}
	last := len(its.Ins)
	if behind < len(by.Ins) {
		return verdict{api.ErrMatch, b, last}
	}
	ended := func(_ []api.Mach, end api.End) bool { return alike(end, by.End) }
	if k := its.Term.Kind; k == api.Jump || k == api.Ret || k == api.Trap {
		if _, end, ok := tile.Emit(s.f, b, last, 0, 0); !ok || !ended(nil, end) {
			return verdict{api.ErrCover, b, last}
		}
		return verdict{}
	}
	pats := s.tiles(b, last, 0, ended)
	if len(pats) == 0 {
		return verdict{api.ErrCover, b, last}
	}
	s.root(b, last, pats)
	return verdict{}
}

// tiles are the patterns of all tiles of the table that stand at a place.
func (s *seconder) tiles(b, place, temp int, stands func([]api.Mach, api.End) bool) []int {
	var pats []int
	for _, its := range s.l {
		if code, end, ok := tile.Emit(s.f, b, place, its.Pat, temp); ok && stands(code, end) {
			pats = append(pats, its.Pat)
		}
	}
	if len(pats) > 0 && slices.Min(pats) != slices.Max(pats) {
		panic("tiles of two patterns stand at one place")
	}
	return pats
}

// root notes a root, or a term, and its tile: the cheapest of its pattern.
func (s *seconder) root(b, place int, pats []int) {
	s.roots[[2]int{b, place}] = true
	least := 1 << 30
	for _, its := range s.l {
		if its.Pat == pats[0] {
			least = min(least, its.Cost)
		}
	}
	s.cost += least
	_, inner, _ := tile.Match(s.f, b, place, pats[0])
	for _, v := range inner {
		s.inner[v] = true
	}
}

// taken tells whether a temp that an instruction makes is no number of its own.
func (s *seconder) taken(b, n, temp int) bool {
	if temp < check.Top(s.f) {
		return true
	}
	for other, x := range s.m.Blocks {
		for _, p := range x.Phis {
			if p.Dst == temp {
				return true
			}
		}
		for at, i := range x.Ins {
			if (other != b || at != n) && slices.Contains(mach.Makes(i), temp) {
				return true
			}
		}
	}
	return false
}
