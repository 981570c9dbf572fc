package check

import "jacquard/api"

// spot is where something stands: its block, and its place there (of phis below 0).
type spot struct{ block, place int }

// inOrder goes over all phis, instructions and terms of a function, in order.
func inOrder(f api.Func, phi func(spot, api.Phi), ins func(spot, api.Ins), term func(spot, api.Term)) {
	for b, block := range f.Blocks {
		for n, p := range block.Phis {
			phi(spot{b, -1 - n}, p)
		}
		for n, i := range block.Ins {
			ins(spot{b, n}, i)
		}
		term(spot{b, len(block.Ins)}, block.Term)
	}
}

// products are the values that an instruction makes, in order.
func products(i api.Ins) []int {
	both := [...]int{i.Dst, i.Two}
	switch i.Op {
	case api.Store:
		return nil
	case api.Mulw:
		return both[:]
	}
	return both[:1]
}

// makes tells each value that is made, and where, in order.
func makes(f api.Func, tell func(v int, at spot)) {
	inOrder(f, func(at spot, p api.Phi) {
		tell(p.Dst, at)
	}, func(at spot, i api.Ins) {
		for _, v := range products(i) {
			tell(v, at)
		}
	}, func(spot, api.Term) {})
}

// takes tells each operand, and where it stands, in order.
func takes(f api.Func, tell func(v int, at spot)) {
	all := func(at spot, operands []int) {
		for _, v := range operands {
			tell(v, at)
		}
	}
	inOrder(f, func(at spot, p api.Phi) {
		for _, in := range p.In {
			tell(in.Val, at)
		}
	}, func(at spot, i api.Ins) {
		all(at, i.Args)
	}, func(at spot, t api.Term) {
		all(at, t.Args)
	})
}

// Top is the least number above all values: those that are made, and parameters.
func Top(f api.Func) int {
	top := min(max(f.Params, 0), api.MaxValues)
	makes(f, func(v int, _ spot) {
		if v < api.MaxValues {
			top = max(top, v+1)
		}
	})
	return top
}

// Uses tells how often each value is an operand.
func Uses(f api.Func) []int {
	uses := make([]int, Top(f))
	takes(f, func(v int, _ spot) {
		if 0 <= v && v < len(uses) {
			uses[v]++
		}
	})
	return uses
}

// Foldable tells whether a value's instruction may be an inner node of a tile: its one use stands behind it in its block.
func Foldable(f api.Func, val int) bool {
	made, makers := spot{}, 0
	makes(f, func(v int, at spot) {
		if v == val {
			made, makers = at, makers+1
		}
	})
	used, users := spot{}, 0
	takes(f, func(v int, at spot) {
		if v == val {
			used, users = at, users+1
		}
	})
	if makers != 1 || users != 1 || made.place < 0 {
		return false
	}
	behind := used.block == made.block && used.place > made.place
	return behind && folds(f.Blocks[made.block].Ins[made.place].Op)
}

// folds tells whether there are tiles with such an operation inside.
func folds(op int) bool {
	switch op {
	case api.Const, api.Add, api.Mul, api.Eq, api.Lt, api.Ltu:
		return true
	}
	return false
}
