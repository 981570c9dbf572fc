package interp

import "jacquard/api"

// Memory is how an input's memory begins: as many of its words as a memory has at most.
func Memory(in api.Input) []int32 {
	return own(in.Mem[:min(len(in.Mem), api.MaxMem)])
}

// Load is the word of memory at an address; false: there is none.
func Load(mem []int32, at int32) (int32, bool) {
	if !has(mem, at) {
		return 0, false
	}
	return mem[at], true
}

// Store sets the word of memory at an address; false: there is none.
func Store(mem []int32, at int32, v int32) bool {
	if !has(mem, at) {
		return false
	}
	mem[at] = v
	return true
}

// has tells whether memory has a word at an address.
func has(mem []int32, at int32) bool {
	return at >= 0 && int(at) < len(mem)
}

// own is a row of the same words that shares nothing with them.
func own(words []int32) []int32 {
	return append([]int32(nil), words...)
}
