package linear

import (
	"slices"

	"jacquard/api"
	"jacquard/mach"
)

// maxParts is how many instructions and ends a program has at most. (Layer 12 knows, too, but tells it of whole programs alone, and what is too great need not be laid to its end.)
const maxParts = 65536

// writer lays a program, block by block.
type writer struct {
	code
	plan
	waits []int // of each block the first of the slots in which what its phis take waits; below 0: it is brought home at once
	spare int
	cache cache
	ins   []api.Placed // of the block that it is at
	top   int          // how many slots are named
	fails bool         // there would be more slots than may be
}

// newWriter is one that begins.
func newWriter(c code) *writer {
	w := &writer{code: c, plan: c.plan()}
	w.waits, w.spare = c.waiting(w.slots)
	if w.spare+1 >= api.MaxSlots {
		w.spare = -1
	}
	return w
}

// program is what is laid; if it is more than may be, nothing.
func (w *writer) program() api.PFunc {
	p := api.PFunc{Params: w.m.Params, K: w.k}
	parts := 0
	for b := range w.m.Blocks {
		x := w.block(b)
		p.Blocks = append(p.Blocks, x)
		parts += len(x.Ins) + 1
		if w.fails || parts > maxParts {
			return api.PFunc{}
		}
	}
	p.Slots = w.top
	return p
}

// block lays a block.
func (w *writer) block(b int) api.PBlock {
	x := w.m.Blocks[b]
	w.ins = nil
	w.cache.forget()
	if b == 0 {
		w.begin()
	}
	w.enter(b)
	for n, i := range x.Ins {
		w.instruction(n, i)
	}
	w.leave(b)
	end := w.end(x.End)
	return api.PBlock{Ins: w.ins, End: end}
}

// begin brings the parameters home. One in the register that moves go by comes last, by way of a temp: all others are out of these then.
func (w *writer) begin() {
	params, hidden := w.begins[0], w.by()
	n, isHidden := slices.BinarySearch(params, hidden)
	if !isHidden {
		w.made(params, params)
		return
	}
	w.made(params[:n], params[:n])
	w.between(api.Mach{Op: api.MMov, D: 0, A: hidden})
	w.made(params[n:], []int{0})
}

// instruction lays the one of a number, and what must be about it.
func (w *writer) instruction(n int, i api.Mach) {
	switch {
	case w.isNeedless(i):
	case i.Op == api.MCall:
		w.call(n, i)
	default:
		w.plain(n, i)
	}
}

// isNeedless tells whether an instruction does nothing: what it makes stands there already, or nowhere.
func (w *writer) isNeedless(i api.Mach) bool {
	if i.Op != api.MMov && i.Op != api.MLi && i.Op != api.MLiw {
		return false
	}
	h, ok := w.homes[i.D]
	if i.Op == api.MMov {
		return !ok || h == w.homes[i.A]
	}
	return ok && h.place < 0
}

// plain lays an instruction that may take what stands in any registers.
func (w *writer) plain(n int, i api.Mach) {
	x := bound(i)
	takes := [...]*int{&x.A, &x.B, &x.C}
	for at, r := range mach.Takes(i) {
		*takes[at] = w.taken(r)
	}
	makes := mach.Makes(i)
	if !isBound(i.Op) && len(makes) > 0 {
		x.D = w.target(makes[0])
	}
	w.lay(x, n)
	w.made(makes, mach.Makes(x))
}

// call lays one, that has its operands, and what is answered, in registers of their own.
func (w *writer) call(n int, i api.Mach) {
	x, by := bound(i), w.by()
	if len(x.Args) > w.usable() {
		// The register that moves go by has an operand itself; but what comes from home to all registers does not go round.
		w.cache.forget()
		by = -1
	}
	var operands []wanted
	for at, r := range i.Args {
		operands = append(operands, wanted{at, r})
	}
	w.bring(operands, by)
	w.lay(x, n)
	w.cache.forget()
	w.made(mach.Makes(i), mach.Makes(x))
}

// end lays what an end takes, and tells the end.
func (w *writer) end(e api.End) api.End {
	x := api.End{Op: e.Op, To: copied(e.To), Imm: e.Imm}
	needs := mach.Needs(e)
	if e.Op == api.ERet {
		x.A = min(e.A, 0)
		for _, r := range needs {
			w.bring([]wanted{{x.A, r}}, -1)
		}
		return x
	}
	takes := [...]*int{&x.A, &x.B}
	for at, r := range needs {
		*takes[at] = w.taken(r)
	}
	return x
}
