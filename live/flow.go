package live

import (
	"slices"

	"jacquard/api"
	"jacquard/mach"
)

// flow is machine code that may be, and which registers are live where its blocks begin, and where they end.
type flow struct {
	m       api.MFunc
	in, out []set[int]
}

// flowOf finds what is live in machine code that may be.
func flowOf(m api.MFunc) flow {
	f := flow{m, make([]set[int], len(m.Blocks)), make([]set[int], len(m.Blocks))}
	f.takePhis()
	made, begun := make([]set[int], len(m.Blocks)), make([]set[int], len(m.Blocks))
	for b, x := range m.Blocks {
		f.in[b] = f.ahead(b, 0)
		begun[b].add(f.begins(b)...)
		for _, i := range x.Ins {
			made[b].add(mach.Makes(i)...)
		}
	}
	f.settle(made, begun)
	return f
}

// takePhis puts into out what phis take at the ends of the blocks that control comes from.
func (f flow) takePhis() {
	for _, x := range f.m.Blocks {
		for _, p := range x.Phis {
			for _, in := range p.In {
				f.out[in.From].add(in.Val)
			}
		}
	}
}

// begins are the registers that are made where a block begins.
func (f flow) begins(block int) []int {
	var l []int
	for _, p := range f.m.Blocks[block].Phis {
		l = append(l, p.Dst)
	}
	if block == 0 {
		for r := range f.m.Params {
			l = append(l, r)
		}
	}
	return l
}

// settle brings what is live back through blocks that do not make it, and on to where control comes from, till nothing is new. It begins with what each block takes itself.
func (f flow) settle(made, begun []set[int]) {
	preds := f.preds()
	// Behind a block stand mostly those that it goes on to: so from the last one back most blocks are looked at just once.
	var queue []int
	for b := range slices.Backward(f.m.Blocks) {
		queue = append(queue, b)
	}
	var waiting set[int]
	waiting.add(queue...)
	for len(queue) > 0 {
		b := queue[0]
		queue = queue[1:]
		waiting.remove(b)
		f.in[b].join(f.out[b], made[b])
		for _, from := range preds[b] {
			if f.out[from].join(f.in[b], begun[b]) && !waiting.has(from) {
				waiting.add(from)
				queue = append(queue, from)
			}
		}
	}
}

// preds are the blocks that control comes from; one that has several ways on to a block stands there as often.
func (f flow) preds() [][]int {
	rows := make([][]int, len(f.m.Blocks))
	for b, x := range f.m.Blocks {
		for _, to := range x.End.To {
			rows[to] = append(rows[to], b)
		}
	}
	return rows
}

// ahead are the registers that are live ahead of a place, as far as out tells.
func (f flow) ahead(block, place int) set[int] {
	x := f.m.Blocks[block]
	live := slices.Clone(f.out[block])
	live.add(mach.Needs(x.End)...)
	for _, i := range slices.Backward(x.Ins[place:]) {
		live.remove(mach.Makes(i)...)
		live.add(mach.Takes(i)...)
	}
	return live
}

// over goes over all places, and has look see each with the registers that have it. (They are its to look at, not to keep.)
func (f flow) over(look func(at spot, having set[int])) {
	for b, x := range f.m.Blocks {
		having := f.ahead(b, len(x.Ins))
		for n, i := range slices.Backward(x.Ins) {
			made := mach.Makes(i)
			having.add(made...)
			look(spot{b, n + 1}, having)
			// What is made is not live ahead of that, whether it was behind it or not.
			having.remove(made...)
			having.add(mach.Takes(i)...)
		}
		having.add(f.begins(b)...)
		look(spot{b, 0}, having)
	}
}
