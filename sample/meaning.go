package sample

import (
	"math"

	"jacquard/api"
)

// This is a second reading of what instructions and ends of the machine name, and do, by layer 7's words, in numbers of 64 bits: tests hold that of several layers against it.

// Named are the registers that an instruction makes, and those that it takes, by the chapter's table.
func Named(i api.Mach) (makes, takes []int) {
	switch i.Op {
	case 1:
		return []int{i.D}, []int{i.A}
	case 2:
		return []int{i.A, i.B}, []int{i.A, i.B}
	case 3, 4:
		return []int{i.D}, nil
	case 5, 6, 7, 8, 9, 10, 11, 12, 13, 14, 15, 16, 17:
		return []int{i.D}, []int{i.A, i.B}
	case 18, 19, 20, 21, 22:
		return []int{i.D}, []int{i.A}
	case 23:
		return []int{i.D}, []int{i.A, i.B, i.C}
	case 24:
		return []int{i.D}, []int{i.A}
	case 25:
		return []int{i.D}, []int{i.A, i.B}
	case 26:
		return nil, []int{i.A, i.B}
	case 27:
		return nil, []int{i.A, i.B, i.C}
	case 28:
		return []int{i.D}, i.Args
	case 29:
		return []int{i.D, i.E}, []int{i.A, i.B}
	case 30:
		return []int{i.D}, nil
	case 31:
		return nil, []int{i.A}
	}
	return nil, nil
}

// Needed are the registers that an end takes, by the chapter's words.
func Needed(e api.End) []int {
	switch e.Op {
	case 2, 6:
		return []int{e.A}
	case 3, 4, 5:
		return []int{e.A, e.B}
	case 7:
		if e.A >= 0 {
			return []int{e.A}
		}
	}
	return nil
}

// round is what a number goes round to.
func round(n int64) int64 {
	const all = int64(1) << 32
	n = (n%all + all) % all
	if n >= all/2 {
		n -= all
	}
	return n
}

// unsigned is a word without its sign.
func unsigned(n int64) int64 {
	if n < 0 {
		return n + int64(1)<<32
	}
	return n
}

// truth is 1, if something is so, else 0.
func truth(so bool) int64 {
	if so {
		return 1
	}
	return 0
}

// reckon is a word by an operation, MAdd to MDiv, of two others (MDiv by 0 is not asked for).
func reckon(op int, a, b int64) int64 {
	power := int64(1) << (unsigned(b) % 32)
	switch op {
	case api.MAdd:
		return round(a + b)
	case api.MSub:
		return round(a - b)
	case api.MMul:
		return round(a * b)
	case api.MAnd:
		return round(unsigned(a) & unsigned(b))
	case api.MOr:
		return round(unsigned(a) | unsigned(b))
	case api.MXor:
		return round(unsigned(a) ^ unsigned(b))
	case api.MShl:
		return round(unsigned(a) * power)
	case api.MShr:
		return round(unsigned(a) / power)
	case api.MSar:
		return int64(math.Floor(float64(a) / float64(power)))
	case api.MEq:
		return truth(a == b)
	case api.MLt:
		return truth(a < b)
	case api.MLtu:
		return truth(unsigned(a) < unsigned(b))
	}
	return round(a / b)
}

// Meant is what an instruction of registers makes, and what it stores (where, and what), by the words that it takes; a trap, if it is not 0.
type Meant struct {
	Made      []int64
	At, Store int64
	Stores    bool
	Trap      int32
}

// address is what comes of a word of memory that is asked for.
func address(mem []int32, at int64, store ...int64) Meant {
	at = round(at)
	switch {
	case at < 0 || at >= int64(len(mem)):
		return Meant{Trap: api.TrapMem}
	case len(store) > 0:
		return Meant{At: at, Store: store[0], Stores: true}
	}
	return Meant{Made: []int64{int64(mem[at])}}
}

// Meaning is what an instruction that layer 7 does by itself comes to.
func Meaning(i api.Mach, a []int64, mem []int32) Meant {
	imm := int64(i.Imm)
	switch i.Op {
	case api.MMov:
		return Meant{Made: a}
	case api.MSwap:
		return Meant{Made: []int64{a[1], a[0]}}
	case api.MLi, api.MLiw:
		return Meant{Made: []int64{imm}}
	case api.MAddI:
		return Meant{Made: []int64{round(a[0] + imm)}}
	case api.MAndI:
		return Meant{Made: []int64{reckon(api.MAnd, a[0], imm)}}
	case api.MShlI:
		return Meant{Made: []int64{reckon(api.MShl, a[0], imm)}}
	case api.MShrI:
		return Meant{Made: []int64{reckon(api.MShr, a[0], imm)}}
	case api.MSarI:
		return Meant{Made: []int64{reckon(api.MSar, a[0], imm)}}
	case api.MMadd:
		return Meant{Made: []int64{round(round(a[0]*a[1]) + a[2])}}
	case api.MLd:
		return address(mem, a[0]+imm)
	case api.MLdX:
		return address(mem, a[0]+a[1])
	case api.MSt:
		return address(mem, a[0]+imm, a[1])
	case api.MStX:
		return address(mem, a[0]+a[1], a[2])
	case api.MMulw:
		low := round(a[0] * a[1])
		return Meant{Made: []int64{low, (a[0]*a[1] - unsigned(low)) / (int64(1) << 32)}}
	}
	if i.Op == api.MDiv && a[1] == 0 {
		return Meant{Trap: api.TrapDiv}
	}
	return Meant{Made: []int64{reckon(i.Op, a[0], a[1])}}
}

// Leads is the place in To of where an end goes, by the words that it takes.
func Leads(e api.End, a []int64) int {
	switch e.Op {
	case api.EJ:
		return 0
	case api.EBnz:
		return int(truth(a[0] == 0))
	case api.EBeq:
		return int(truth(a[0] != a[1]))
	case api.EBlt:
		return int(truth(a[0] >= a[1]))
	case api.EBltu:
		return int(truth(unsigned(a[0]) >= unsigned(a[1])))
	case api.EJt:
		last := len(e.To) - 1
		for n := range max(last, 0) {
			if unsigned(a[0]) == int64(n) {
				return n
			}
		}
		return last
	}
	return -1
}
