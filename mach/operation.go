package mach

import (
	"slices"

	"jacquard/api"
	"jacquard/interp"
	"jacquard/word"
)

// words are what an instruction takes, or makes, in order.
type words [3]int32

// effect is what an instruction makes of the words that it takes, and of memory; other than 0 is a trap, and then memory is as it was.
// It is told no registers, so that it can neither hang on others than those that it takes, nor change others than those that it makes.
type effect func(i api.Mach, a words, mem []int32) (made words, trap int32)

// operation is how many registers one makes (of D, E, in order) and takes (of A, B, C), and what it does; nil: nothing by itself.
type operation struct {
	makes, takes int
	does         effect
}

// operationOf is that of an Op; of another number one that does nothing.
// It is a switch, so that no table has to be made for each instruction that is done.
func operationOf(op int) operation {
	switch op {
	case api.MMov:
		return operation{1, 1, moved}
	case api.MSwap:
		return operation{2, 2, swapped}
	case api.MLi, api.MLiw:
		return operation{1, 0, number}
	case api.MAdd, api.MSub, api.MMul, api.MAnd, api.MOr, api.MXor, api.MShl, api.MShr, api.MSar, api.MEq, api.MLt, api.MLtu, api.MDiv:
		return operation{1, 2, ofTwo}
	case api.MAddI, api.MAndI, api.MShlI, api.MShrI, api.MSarI:
		return operation{1, 1, ofNumber}
	case api.MMadd:
		return operation{1, 3, multiplied}
	case api.MLd:
		return operation{1, 1, loaded}
	case api.MLdX:
		return operation{1, 2, loadedAtSum}
	case api.MSt:
		return operation{0, 2, stored}
	case api.MStX:
		return operation{0, 3, storedAtSum}
	case api.MCall, api.MSld:
		return operation{1, 0, nil}
	case api.MMulw:
		return operation{2, 2, wide}
	case api.MSst:
		return operation{0, 1, nil}
	}
	return operation{}
}

// Takes are the registers that an instruction takes, in order.
func Takes(i api.Mach) []int {
	if i.Op == api.MCall {
		return slices.Clone(i.Args)
	}
	all := sources(i)
	return slices.Clone(all[:operationOf(i.Op).takes])
}

// Makes are those that it makes.
func Makes(i api.Mach) []int {
	all := targets(i)
	return slices.Clone(all[:operationOf(i.Op).makes])
}

// sources are where the words that an instruction takes stand, those of a call apart.
func sources(i api.Mach) [3]int {
	return [3]int{i.A, i.B, i.C}
}

// targets are where the words that an instruction makes go to.
func targets(i api.Mach) [2]int {
	if i.Op == api.MSwap {
		return [2]int{i.A, i.B}
	}
	return [2]int{i.D, i.E}
}

// moved is a word as it is.
func moved(_ api.Mach, a words, _ []int32) (words, int32) {
	return words{a[0]}, 0
}

// swapped is two words, the other way round.
func swapped(_ api.Mach, a words, _ []int32) (words, int32) {
	return words{a[1], a[0]}, 0
}

// number is the instruction's own.
func number(i api.Mach, _ words, _ []int32) (words, int32) {
	return words{i.Imm}, 0
}

// reckonsBy is the operation of functions that one of the machine is, of two words, or of one and a number.
func reckonsBy(op int) int {
	switch op {
	case api.MAddI:
		return api.Add
	case api.MAndI:
		return api.And
	case api.MShlI, api.MShrI, api.MSarI:
		return op - api.MShlI + api.Shl
	}
	return op - api.MAdd + api.Add
}

// reckoned is a word by an instruction's operation of two others.
func reckoned(i api.Mach, a, b int32) (words, int32) {
	w, ok := word.Do(reckonsBy(i.Op), a, b)
	if !ok {
		return words{}, api.TrapDiv
	}
	return words{w}, 0
}

// ofTwo reckons with two words.
func ofTwo(i api.Mach, a words, _ []int32) (words, int32) {
	return reckoned(i, a[0], a[1])
}

// ofNumber reckons with a word and a number.
func ofNumber(i api.Mach, a words, _ []int32) (words, int32) {
	return reckoned(i, a[0], i.Imm)
}

// multiplied is a product, and a word more.
func multiplied(_ api.Mach, a words, _ []int32) (words, int32) {
	return words{a[0]*a[1] + a[2]}, 0
}

// wide is a product's lower half, and its upper one.
func wide(_ api.Mach, a words, _ []int32) (words, int32) {
	low, high := word.Wide(a[0], a[1])
	return words{low, high}, 0
}

// load is the word at an address.
func load(mem []int32, at int32) (words, int32) {
	w, ok := interp.Load(mem, at)
	if !ok {
		return words{}, api.TrapMem
	}
	return words{w}, 0
}

// store stores a word at an address.
func store(mem []int32, at, w int32) (words, int32) {
	if !interp.Store(mem, at, w) {
		return words{}, api.TrapMem
	}
	return words{}, 0
}

// loaded is the word at an address and a number.
func loaded(i api.Mach, a words, mem []int32) (words, int32) {
	return load(mem, a[0]+i.Imm)
}

// loadedAtSum is the word at two others together.
func loadedAtSum(_ api.Mach, a words, mem []int32) (words, int32) {
	return load(mem, a[0]+a[1])
}

// stored stores a word at an address and a number.
func stored(i api.Mach, a words, mem []int32) (words, int32) {
	return store(mem, a[0]+i.Imm, a[1])
}

// storedAtSum stores a word at two others together.
func storedAtSum(_ api.Mach, a words, mem []int32) (words, int32) {
	return store(mem, a[0]+a[1], a[2])
}
