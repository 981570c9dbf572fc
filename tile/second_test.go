package tile_test

import (
	"slices"
	"strings"

	"jacquard/api"
	"jacquard/check"
)

// The catalogue as the document has it: name | what fits (and which operands are inner) | which number, from, to | takes | machine code.
const words = `li   | Const                        | I -32768 32767 |       | MLi D Imm=I
liw  | Const                        |                |       | MLiw D Imm=I
add  | Add a b                      |                | a b   | MAdd D A=a B=b
sub  | Sub a b                      |                | a b   | MSub D A=a B=b
mul  | Mul a b                      |                | a b   | MMul D A=a B=b
and  | And a b                      |                | a b   | MAnd D A=a B=b
or   | Or a b                       |                | a b   | MOr D A=a B=b
xor  | Xor a b                      |                | a b   | MXor D A=a B=b
shl  | Shl a b                      |                | a b   | MShl D A=a B=b
shr  | Shr a b                      |                | a b   | MShr D A=a B=b
sar  | Sar a b                      |                | a b   | MSar D A=a B=b
eq   | Eq a b                       |                | a b   | MEq D A=a B=b
lt   | Lt a b                       |                | a b   | MLt D A=a B=b
ltu  | Ltu a b                      |                | a b   | MLtu D A=a B=b
div  | Div a b                      |                | a b   | MDiv D A=a B=b
addi | Add a c; c Const             | K -128 127     | a     | MAddI D A=a Imm=K
subi | Sub a c; c Const             | K -127 128     | a     | MAddI D A=a Imm=-K
andi | And a c; c Const             | K -128 127     | a     | MAndI D A=a Imm=K
shli | Shl a c; c Const             | K 0 31         | a     | MShlI D A=a Imm=K
shri | Shr a c; c Const             | K 0 31         | a     | MShrI D A=a Imm=K
sari | Sar a c; c Const             | K 0 31         | a     | MSarI D A=a Imm=K
madd | Add m z; m Mul x y           |                | x y z | MMadd D A=x B=y C=z
ld   | Load a                       | I 0 255        | a     | MLd D A=a Imm=I
lda  | Load s; s Add x c; c Const   | K+I 0 255      | x     | MLd D A=x Imm=K+I
ldx  | Load s; s Add x y            | I 0 0          | x y   | MLdX D A=x B=y
ldl  | Load a                       |                | a     | MLiw D=t Imm=I; MLdX D A=a B=t
st   | Store a v                    | I 0 255        | a v   | MSt A=a B=v Imm=I
sta  | Store s v; s Add x c; c Const| K+I 0 255      | x v   | MSt A=x B=v Imm=K+I
stx  | Store s v; s Add x y         | I 0 0          | x y v | MStX A=x B=y C=v
stl  | Store a v                    |                | a v   | MLiw D=t Imm=I; MStX A=a B=t C=v
call | Call                         |                | all   | MCall D Imm=I Args
mulw | Mulw a b                     |                | a b   | MMulw D E A=a B=b
bnz  | Branch v                     |                | v     | EBnz A=v To
beq  | Branch e; e Eq x y           |                | x y   | EBeq A=x B=y To
blt  | Branch e; e Lt x y           |                | x y   | EBlt A=x B=y To
bltu | Branch e; e Ltu x y          |                | x y   | EBltu A=x B=y To
jt   | Switch v                     |                | v     | EJt A=v To`

// The names of operations, of kinds of terms, of machine operations and of ends, as api numbers them from 1 on.
const (
	ops   = "Const Add Sub Mul And Or Xor Shl Shr Sar Eq Lt Ltu Div Load Store Call Mulw"
	kinds = "Jump Branch Switch Ret Trap"
	codes = "MMov MSwap MLi MLiw MAdd MSub MMul MAnd MOr MXor MShl MShr MSar MEq MLt MLtu MDiv MAddI MAndI MShlI MShrI MSarI MMadd MLd MLdX MSt MStX MCall MMulw MSld MSst"
	ends  = "EJ EBnz EBeq EBlt EBltu EJt ERet ETrap"
)

// number is that of a name; 0, if it is none.
func number(names, name string) int {
	return 1 + slices.Index(strings.Fields(names), name)
}

// lines are the patterns', in their columns.
var lines = columns()

// columns are those of all lines.
func columns() [][]string {
	var all [][]string
	for _, line := range strings.Split(words, "\n") {
		its := strings.Split(line, "|")
		for n := range its {
			its[n] = strings.TrimSpace(its[n])
		}
		all = append(all, its)
	}
	return all
}

// told is what is told of a pattern at a place.
type told struct {
	takes, inner []int
	code         []api.Mach
	end          api.End
	ok           bool
}

// reader reads a line at a place.
type reader struct {
	f      api.Func
	vals   map[string]int // by letters
	ins    api.Ins        // what stands there
	term   api.Term
	k      int64 // of the Const
	inner  []int
	misses bool
}

// bind gives letters their values.
func (r *reader) bind(letters []string, args []int) {
	for n, letter := range letters {
		r.vals[letter] = args[n]
	}
}

// made is the instruction that makes a value.
func (r *reader) made(v int) api.Ins {
	for _, b := range r.f.Blocks {
		for _, i := range b.Ins {
			if i.Dst == v && i.Op != api.Store {
				return i
			}
		}
	}
	return api.Ins{}
}

// clause holds an operand that is to be inner against what it must be.
func (r *reader) clause(c []string) {
	v := r.vals[c[0]]
	i := r.made(v)
	if i.Op != number(ops, c[1]) || !check.Foldable(r.f, v) {
		r.misses = true
		return
	}
	r.inner = append(r.inner, v)
	r.bind(c[2:], i.Args)
	if i.Op == api.Const {
		r.k = int64(i.Imm)
	}
}

// reckon is the number of a text.
func (r *reader) reckon(text string) int64 {
	switch text {
	case "I":
		return int64(r.ins.Imm)
	case "K":
		return r.k
	case "-K":
		return -r.k
	}
	return r.k + int64(r.ins.Imm)
}

// within tells whether a number is from one up to another, as a text says.
func (r *reader) within(text string) bool {
	if text == "" {
		return true
	}
	w := strings.Fields(text)
	return decimal(w[1]) <= r.reckon(w[0]) && r.reckon(w[0]) <= decimal(w[2])
}

// decimal is the number that a text tells.
func decimal(text string) int64 {
	n, sign := int64(0), int64(1)
	for _, x := range text {
		if x == '-' {
			sign = -1
		} else {
			n = 10*n + int64(x-'0')
		}
	}
	return sign * n
}

// laid is the instruction, or the end, that a text tells.
func (r *reader) laid(text string) (api.Mach, api.End) {
	w := strings.Fields(text)
	m := api.Mach{Op: number(codes, w[0]), D: 0}
	e := api.End{Op: number(ends, w[0])}
	for _, x := range w[1:] {
		field, of, _ := strings.Cut(x, "=")
		v := r.vals[of]
		switch field {
		case "D":
			if m.D = r.ins.Dst; of == "t" {
				m.D = v
			}
		case "E":
			m.E = r.ins.Two
		case "A":
			m.A, e.A = v, v
		case "B":
			m.B, e.B = v, v
		case "C":
			m.C = v
		case "Imm":
			m.Imm = int32(r.reckon(of))
		case "Args":
			m.Args = append(m.Args, r.ins.Args...)
		case "To":
			e.To = append(e.To, r.term.To...)
		}
	}
	return m, e
}

// second tells of a pattern at a place of a function that may be, by the catalogue's words.
func second(f api.Func, block, place, pat, t int) told {
	if block < 0 || block >= len(f.Blocks) || place < 0 || place > len(f.Blocks[block].Ins) || pat < 1 || pat > 37 {
		return told{}
	}
	b, l := f.Blocks[block], lines[pat-1]
	clauses := strings.Split(l[1], ";")
	first := strings.Fields(clauses[0])
	r := &reader{f: f, vals: map[string]int{"t": t}}
	var args []int
	if place < len(b.Ins) {
		r.ins, args = b.Ins[place], b.Ins[place].Args
		r.misses = r.ins.Op != number(ops, first[0])
	} else {
		r.term, args = b.Term, b.Term.Args
		r.misses = r.term.Kind != number(kinds, first[0])
	}
	if r.misses {
		return told{}
	}
	r.bind(first[1:], args)
	for _, c := range clauses[1:] {
		if !r.misses {
			r.clause(strings.Fields(c))
		}
	}
	if r.misses || !r.within(l[2]) {
		return told{}
	}
	x := told{inner: r.inner, ok: true}
	if l[3] == "all" {
		x.takes = append(x.takes, args...)
	} else {
		for _, letter := range strings.Fields(l[3]) {
			x.takes = append(x.takes, r.vals[letter])
		}
	}
	for _, text := range strings.Split(l[4], ";") {
		m, e := r.laid(text)
		if place < len(b.Ins) {
			x.code = append(x.code, m)
		} else {
			x.end = e
		}
	}
	return x
}
