package choose

import (
	"slices"

	"jacquard/api"
	"jacquard/tile"
)

// sight is how many operands away from its place a pattern looks: it may have the Const inside of an Add that is an address.
const sight = 2

// view is what a pattern can see from a place of a function, as a small function of its own. Whatever is asked of a place goes over the whole function that is handed in: of a view that takes no longer in a long function than in a short one.
type view struct {
	f     api.Func // block 0 has all; all ways lead on to block 1
	place int
	to    []int // where the term goes on to in the whole function
}

// look is the view from a place: what makes the foldable values near by, and behind these what stands there. All other values are made by calls, as those are inner to nothing.
func (x covered) look(place int) view {
	var ins []api.Ins
	shown := make(map[int]struct{})
	var show func(operands []int, far int)
	show = func(operands []int, far int) {
		for _, v := range operands {
			if _, twice := shown[v]; twice || v < x.params {
				continue
			}
			shown[v] = struct{}{}
			maker := api.Ins{Op: api.Call, Dst: v}
			if at, folds := x.folds[v]; folds && far > 0 {
				maker = x.its.Ins[at]
				show(maker.Args, far-1)
			}
			ins = append(ins, maker)
		}
	}
	end := api.Term{Kind: api.Trap}
	if place == len(x.its.Ins) {
		end = x.its.Term
		show(end.Args, sight)
		return viewOf(x.params, ins, end, len(ins))
	}
	i := x.its.Ins[place]
	show(i.Args, sight)
	return viewOf(x.params, append(ins, i), end, len(ins))
}

// viewOf is that of instructions and a term, of which one stands at a place.
func viewOf(params int, ins []api.Ins, end api.Term, place int) view {
	to := end.To
	end.To = slices.Repeat([]int{1}, len(to))
	f := api.Func{Params: params, Blocks: []api.Block{{Ins: ins, Term: end}}}
	if len(to) > 0 {
		f.Blocks = append(f.Blocks, api.Block{Term: api.Term{Kind: api.Trap}})
	}
	return view{f, place, to}
}

// match tells whether a pattern fits the place, and what it takes.
func (v view) match(pat int) ([]int, bool) {
	takes, _, ok := tile.Match(v.f, 0, v.place, pat)
	return takes, ok
}

// emit is the machine code, or the end, of a pattern that fits the place.
func (v view) emit(pat, temp int) ([]api.Mach, api.End) {
	code, end, _ := tile.Emit(v.f, 0, v.place, pat, temp)
	if len(end.To) > 0 {
		end.To = slices.Clone(v.to)
	}
	return code, end
}
