// Package word is layer 1: 32-bit arithmetic, and words and operations as texts.
package word

import "jacquard/api"

// longest is how many bytes the text of a word has at most: a sign and ten digits.
const longest = 11

// Do is a word by an operation (Add to Div) of two others; false: Div by 0, or no such operation.
func Do(op int, a, b int32) (int32, bool) {
	switch op {
	case api.Add:
		return a + b, true
	case api.Sub:
		return a - b, true
	case api.Mul:
		return a * b, true
	case api.And:
		return a & b, true
	case api.Or:
		return a | b, true
	case api.Xor:
		return a ^ b, true
	case api.Shl:
		return a << places(b), true
	case api.Shr:
		return int32(uint32(a) >> places(b)), true
	case api.Sar:
		return a >> places(b), true
	case api.Eq:
		return truth(a == b), true
	case api.Lt:
		return truth(a < b), true
	case api.Ltu:
		return truth(uint32(a) < uint32(b)), true
	case api.Div:
		return quotient(a, b)
	}
	return 0, false
}

// places is by how many bits a shift by b moves.
func places(b int32) uint32 {
	return uint32(b) & 31
}

// truth is a comparison's answer as a word.
func truth(so bool) int32 {
	if so {
		return 1
	}
	return 0
}

// quotient is a by b, cut towards 0; false: b is 0.
func quotient(a, b int32) (int32, bool) {
	switch b {
	case 0:
		return 0, false
	case -1:
		// The one quotient that is no word, -2^31 by -1, goes round as the difference does.
		return 0 - a, true
	}
	return a / b, true
}

// Wide is a product of 64 bits with a sign: its lower and its upper half.
func Wide(a, b int32) (low, high int32) {
	product := int64(a) * int64(b)
	return int32(product), int32(product >> 32)
}

// Fits tells whether a word fits into so many bits with a sign; into none, or fewer, only 0 does.
func Fits(n int32, bits int) bool {
	if bits < 1 {
		return n == 0
	}
	if bits > 31 {
		return true
	}
	bound := int64(1) << uint(bits-1)
	return -bound <= int64(n) && int64(n) < bound
}

// spelling is how an operation is written.
type spelling struct{ name string }

// spellings are those of all operations, by their numbers.
func spellings() map[int]spelling {
	return map[int]spelling{
		api.Const: {"const"},
		api.Add:   {"add"},
		api.Sub:   {"sub"},
		api.Mul:   {"mul"},
		api.And:   {"and"},
		api.Or:    {"or"},
		api.Xor:   {"xor"},
		api.Shl:   {"shl"},
		api.Shr:   {"shr"},
		api.Sar:   {"sar"},
		api.Eq:    {"eq"},
		api.Lt:    {"lt"},
		api.Ltu:   {"ltu"},
		api.Div:   {"div"},
		api.Load:  {"load"},
		api.Store: {"store"},
		api.Call:  {"call"},
		api.Mulw:  {"mulw"},
	}
}

// Name is an operation's name; empty: there is no such operation.
func Name(op int) string {
	return spellings()[op].name
}

// Number is the operation of a name; 0: there is none.
func Number(name string) int {
	all := spellings()
	for op := api.Const; op <= api.Mulw; op++ {
		if all[op].name == name {
			return op
		}
	}
	return 0
}

// Text is a word in decimal.
func Text(n int32) string {
	// The size of -2^31 is no word, but it is a number without a sign.
	size := uint32(n)
	if n < 0 {
		size = 0 - size
	}
	var text [longest]byte
	first := longest
	lay := func(b byte) {
		first--
		text[first] = b
	}
	lay('0' + byte(size%10))
	for size /= 10; size > 0; size /= 10 {
		lay('0' + byte(size%10))
	}
	if n < 0 {
		lay('-')
	}
	return string(text[first:])
}

// Parse is the word whose Text is s; false: there is none.
func Parse(s string) (int32, bool) {
	if len(s) > longest {
		return 0, false
	}
	digits, sign := s, int64(1)
	if len(s) > 0 && s[0] == '-' {
		digits, sign = s[1:], -1
	}
	size := int64(0)
	for i := 0; i < len(digits); i++ {
		if digits[i] < '0' || digits[i] > '9' {
			return 0, false
		}
		size = size*10 + int64(digits[i]-'0')
	}
	// Noughts ahead, -0, no digits, and what is no word are told by the text being another one.
	n := int32(sign * size)
	if Text(n) != s {
		return 0, false
	}
	return n, true
}
