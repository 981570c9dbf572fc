package cover

import (
	"slices"

	"jacquard/api"
	"jacquard/check"
	"jacquard/tile"
)

// sight is how many operands away from its place a pattern looks at most: at the Const of an Add that is an address.
const sight = 2

// site is a place of a function, as a small function of what a pattern can see from there: layer 6 goes over the whole of a function each time that it is asked.
type site struct {
	f     api.Func // block 0 has all; all ways lead on to block 1
	place int
	takes []int // the operands of what stands there
	to    []int // where its term goes on to in the whole function
}

// match tells the values that a pattern takes, and those that are inner to it, if it fits the site.
func (s site) match(pat int) (takes, inner []int, ok bool) {
	if pat == plain {
		_, _, ok := s.emit(pat, 0)
		return s.takes, nil, ok
	}
	return tile.Match(s.f, 0, s.place, pat)
}

// emit is the machine code, or the end, of a pattern, if it fits the site.
func (s site) emit(pat, temp int) ([]api.Mach, api.End, bool) {
	code, end, ok := tile.Emit(s.f, 0, s.place, pat, temp)
	if len(end.To) > 0 {
		end.To = s.to
	}
	return code, end, ok
}

// block is one of a function, with the sites of its places, and its foldable values.
type block struct {
	its   api.Block
	sites []site
	folds map[int]struct{}
}

// foldable tells whether the value of an instruction is. (A Store has none, whatever its Dst says.)
func (b block) foldable(i api.Ins) bool {
	_, folds := b.folds[i.Dst]
	return folds && i.Op != api.Store
}

// looker looks at the blocks of a function that may be.
type looker struct {
	params int
	uses   []int // of all values
}

// lookerOf is that of a function.
func lookerOf(f api.Func) looker {
	return looker{f.Params, check.Uses(f)}
}

// block looks at a block.
func (k looker) block(its api.Block) block {
	b := block{its: its, folds: make(map[int]struct{})}
	once := k.once(its)
	for place := range len(its.Ins) + 1 {
		s := k.site(its, place, once)
		for _, v := range s.takes {
			if check.Foldable(s.f, v) {
				b.folds[v] = struct{}{}
			}
		}
		b.sites = append(b.sites, s)
	}
	return b
}

// once are the places of the instructions whose values are operands just once: only these may be foldable. (A Store makes no value, and none of a Mulw's two is foldable.)
func (k looker) once(its api.Block) map[int]int {
	places := make(map[int]int)
	for place, i := range its.Ins {
		if i.Op != api.Store && i.Op != api.Mulw && k.uses[i.Dst] == 1 {
			places[i.Dst] = place
		}
	}
	return places
}

// site is that of a place: with what makes its operands, and theirs, as far as nothing else takes these. All else is made by calls, as those are inner to nothing.
func (k looker) site(its api.Block, place int, once map[int]int) site {
	var calls, ins []api.Ins
	made := make(map[int]struct{})
	for _, at := range near(its, place, once) {
		for _, v := range operands(its, at) {
			if _, is := made[v]; !is && v >= k.params {
				made[v] = struct{}{}
				calls = append(calls, api.Ins{Op: api.Call, Dst: v})
			}
		}
		if at < len(its.Ins) {
			ins = append(ins, its.Ins[at])
			made[its.Ins[at].Dst] = struct{}{}
		}
	}
	all := slices.Concat(calls, ins)
	s := site{place: len(all) - 1, takes: operands(its, place)}
	blocks := []api.Block{{Ins: all, Term: api.Term{Kind: api.Trap}}}
	if place == len(its.Ins) {
		end := its.Term
		s.place, s.to = len(all), end.To
		end.To = slices.Repeat([]int{1}, len(end.To))
		blocks[0].Term = end
		if len(end.To) > 0 {
			blocks = append(blocks, api.Block{Term: api.Term{Kind: api.Trap}})
		}
	}
	s.f = api.Func{Params: k.params, Blocks: blocks}
	return s
}

// near are the places that a pattern can see from one of them, in order.
func near(its api.Block, place int, once map[int]int) []int {
	all := []int{place}
	last := all
	for range sight {
		var next []int
		for _, at := range last {
			for _, v := range operands(its, at) {
				if by, ok := once[v]; ok {
					next = append(next, by)
				}
			}
		}
		all, last = append(all, next...), next
	}
	slices.Sort(all)
	return all
}

// operands are those of an instruction, or of the term.
func operands(its api.Block, place int) []int {
	if place == len(its.Ins) {
		return its.Term.Args
	}
	return its.Ins[place].Args
}
