package word_test

import (
	"math"
	"math/big"
	"strconv"
	"strings"
	"testing"

	"jacquard/api"
	"jacquard/word"
)

const (
	least    = math.MinInt32
	greatest = math.MaxInt32
)

// names are those of the operations, from Const 1 on.
var names = []string{"const", "add", "sub", "mul", "and", "or", "xor", "shl", "shr", "sar", "eq", "lt", "ltu", "div", "load", "store", "call", "mulw"}

// samples are words at edges, and some between them.
func samples() []int32 {
	l := []int32{0, 1, 2, 3, 5, 7, 10, 31, 32, 33, 63, 64, 100, 127, 128, 255, 256, 32767, 32768, 65535, 65536, 1000003, greatest - 1, greatest}
	for _, n := range l[:len(l):len(l)] {
		l = append(l, -n, ^n)
	}
	for i, n := 0, uint32(12345); i < 40; i++ {
		n = n*1664525 + 1013904223
		l = append(l, int32(n))
	}
	return l
}

// round is a number, gone round to a word.
func round(n *big.Int) int32 {
	rest := new(big.Int).Mod(n, big.NewInt(1<<32))
	return int32(uint32(rest.Uint64()))
}

// unsigned is a word without its sign.
func unsigned(n int32) int64 {
	if n < 0 {
		return int64(n) + 1<<32
	}
	return int64(n)
}

// bitwise is a word by a rule of single bits.
func bitwise(a, b int32, rule func(x, y bool) bool) int32 {
	sum := int64(0)
	for i := 0; i < 32; i++ {
		x, y := unsigned(a)>>i%2 == 1, unsigned(b)>>i%2 == 1
		if rule(x, y) {
			sum += 1 << i
		}
	}
	return int32(uint32(sum))
}

// one is 1 of what is so.
func one(so bool) int32 {
	if so {
		return 1
	}
	return 0
}

// floor is n by 2^by, cut downwards.
func floor(n int64, by int64) int32 {
	q := new(big.Int).Div(big.NewInt(n), big.NewInt(1<<by))
	return round(q)
}

// rules are what each operation must answer, reckoned in another way.
func rules() map[int]func(a, b int32) int32 {
	return map[int]func(a, b int32) int32{
		api.Add: func(a, b int32) int32 { return round(big.NewInt(int64(a) + int64(b))) },
		api.Sub: func(a, b int32) int32 { return round(big.NewInt(int64(a) - int64(b))) },
		api.Mul: func(a, b int32) int32 { return round(new(big.Int).Mul(big.NewInt(int64(a)), big.NewInt(int64(b)))) },
		api.And: func(a, b int32) int32 { return bitwise(a, b, func(x, y bool) bool { return x && y }) },
		api.Or:  func(a, b int32) int32 { return bitwise(a, b, func(x, y bool) bool { return x || y }) },
		api.Xor: func(a, b int32) int32 { return bitwise(a, b, func(x, y bool) bool { return x != y }) },
		api.Shl: func(a, b int32) int32 {
			return round(new(big.Int).Mul(big.NewInt(int64(a)), big.NewInt(1<<(unsigned(b)%32))))
		},
		api.Shr: func(a, b int32) int32 { return floor(unsigned(a), unsigned(b)%32) },
		api.Sar: func(a, b int32) int32 { return floor(int64(a), unsigned(b)%32) },
		api.Eq:  func(a, b int32) int32 { return one(a == b) },
		api.Lt:  func(a, b int32) int32 { return one(int64(a) < int64(b)) },
		api.Ltu: func(a, b int32) int32 { return one(unsigned(a) < unsigned(b)) },
	}
}

// TestDo holds operations against the rules (P1.1).
func TestDo(t *testing.T) {
	for op, rule := range rules() {
		for _, a := range samples() {
			for _, b := range samples() {
				got, ok := word.Do(op, a, b)
				if want := rule(a, b); got != want || !ok {
					t.Fatalf("Do(%s, %d, %d): %d %v, not %d", names[op-1], a, b, got, ok, want)
				}
			}
		}
	}
}

// TestDiv: towards 0; -2^31 by -1; nothing by 0 (P1.1).
func TestDiv(t *testing.T) {
	for _, a := range samples() {
		for _, b := range samples() {
			got, ok := word.Do(api.Div, a, b)
			want := int32(0)
			if b != 0 {
				want = round(new(big.Int).Quo(big.NewInt(int64(a)), big.NewInt(int64(b))))
			}
			if got != want || ok != (b != 0) {
				t.Fatalf("Do(div, %d, %d): %d %v, not %d", a, b, got, ok, want)
			}
		}
	}
	if n, ok := word.Do(api.Div, least, -1); n != least || !ok {
		t.Error("the least word by -1:", n, ok)
	}
}

// TestDoLiterals: answers that are written out (P1.1).
func TestDoLiterals(t *testing.T) {
	for _, x := range []struct {
		op         int
		a, b, want int32
	}{
		{api.Div, -7, 2, -3}, {api.Div, 7, -2, -3}, {api.Div, -7, -2, 3}, {api.Sar, -8, 33, -4}, {api.Ltu, -1, 1, 0},
		{api.Add, greatest, 1, least}, {api.Sub, least, 1, greatest}, {api.Mul, least, -1, least}, {api.Sub, 0, least, least},
		{api.Shl, 1, 31, least}, {api.Shl, 3, 31, least}, {api.Shl, 9, 32, 9}, {api.Shl, 9, -32, 9}, {api.Shl, 1, -1, least},
		{api.Shr, -1, 31, 1}, {api.Shr, -1, 0, -1}, {api.Shr, least, -1, 1}, {api.Shr, 64, 38, 1},
		{api.Sar, -1, 31, -1}, {api.Sar, least, 31, -1}, {api.Sar, 64, 38, 1}, {api.Sar, -3, 1, -2},
		{api.Eq, least, least, 1}, {api.Lt, least, greatest, 1}, {api.Lt, greatest, least, 0}, {api.Ltu, greatest, least, 1}, {api.Ltu, least, -1, 1},
	} {
		if got, ok := word.Do(x.op, x.a, x.b); got != x.want || !ok {
			t.Errorf("Do(%s, %d, %d): %d %v, not %d", names[x.op-1], x.a, x.b, got, ok, x.want)
		}
	}
}

// TestDoOthers: what is none of the operations has no word (P1.1).
func TestDoOthers(t *testing.T) {
	for _, op := range []int{math.MinInt, -1, 0, api.Const, api.Load, api.Store, api.Call, api.Mulw, 19, 1<<32 + api.Add, math.MaxInt} {
		for _, b := range []int32{0, 1, -1, 6} {
			if n, ok := word.Do(op, 6, b); n != 0 || ok {
				t.Errorf("Do(%d, 6, %d): %d %v", op, b, n, ok)
			}
		}
	}
}

// TestWide: both halves of a product (P1.2).
func TestWide(t *testing.T) {
	for _, a := range samples() {
		for _, b := range samples() {
			low, high := word.Wide(a, b)
			product := int64(a) * int64(b)
			if int64(high)*(1<<32)+unsigned(low) != product {
				t.Fatalf("Wide(%d, %d): %d %d", a, b, low, high)
			}
		}
	}
	for _, x := range [][4]int32{{-1, 1, -1, -1}, {-1, -1, 1, 0}, {least, least, 0, 1 << 30}, {least, greatest, least, -1 << 30}, {65536, 65536, 0, 1}, {0, -5, 0, 0}} {
		if low, high := word.Wide(x[0], x[1]); low != x[2] || high != x[3] {
			t.Errorf("Wide(%d, %d): %d %d", x[0], x[1], low, high)
		}
	}
}

// TestFits: at both bounds of each number of bits, and beyond 1 to 32 (P1.2).
func TestFits(t *testing.T) {
	for bits := 1; bits <= 31; bits++ {
		bound := int32(1) << (bits - 1)
		for _, n := range []int32{-bound, 0, bound - 1} {
			if !word.Fits(n, bits) {
				t.Errorf("%d doesn't fit into %d", n, bits)
			}
		}
		for _, n := range []int32{-bound - 1, bound, least, greatest} {
			if word.Fits(n, bits) {
				t.Errorf("%d fits into %d", n, bits)
			}
		}
	}
	for _, n := range samples() {
		for _, bits := range []int{32, 33, 64, 65, 1 << 32, math.MaxInt} {
			if !word.Fits(n, bits) {
				t.Errorf("%d doesn't fit into %d", n, bits)
			}
		}
		for _, bits := range []int{0, -1, -31, -1 << 32, math.MinInt} {
			if word.Fits(n, bits) != (n == 0) {
				t.Errorf("%d and %d", n, bits)
			}
		}
	}
}

// TestNames: of each operation, and of no other number or text (P1.3).
func TestNames(t *testing.T) {
	for i, name := range names {
		if got := word.Name(i + 1); got != name {
			t.Errorf("Name(%d): %q, not %q", i+1, got, name)
		}
		if got := word.Number(name); got != i+1 {
			t.Errorf("Number(%q): %d, not %d", name, got, i+1)
		}
	}
	for _, op := range []int{math.MinInt, -1, 0, 19, 20, 1<<32 + 1, math.MaxInt} {
		if got := word.Name(op); got != "" {
			t.Errorf("Name(%d): %q", op, got)
		}
	}
	for _, name := range []string{"", " ", "Add", "ADD", "add ", " add", "ad", "addi", "mod", "mulwide", "jump", "\x00", "add\x00", "\xff", strings.Repeat("add", 1000)} {
		if got := word.Number(name); got != 0 {
			t.Errorf("Number(%q): %d", name, got)
		}
	}
}

// TestTexts: each word has one text, which tells it (P1.4).
func TestTexts(t *testing.T) {
	l := samples()
	for n := int32(-1100); n <= 1100; n++ {
		l = append(l, n)
	}
	for power := int32(1); power <= 1000000000/10; power *= 10 {
		l = append(l, power*10, power*10-1, -power*10, -power*10+1)
	}
	for _, n := range l {
		want := strconv.Itoa(int(n))
		if got := word.Text(n); got != want {
			t.Errorf("Text(%d): %q", n, got)
		}
		if got, ok := word.Parse(want); got != n || !ok {
			t.Errorf("Parse(%q): %d %v", want, got, ok)
		}
	}
}

// TestParseWrong: what is no word's text (P1.4).
func TestParseWrong(t *testing.T) {
	for _, s := range []string{
		"", "-", "--1", "+", "+1", "-0", "00", "01", "-01", "007", " 1", "1 ", "1\n", "1-", "1_0", "0x1", "1e3", "1.0", "a", "-a", "\x00", "1\x00", "/", ":", "1/", "1:", "٣",
		"2147483648", "-2147483649", "4294967296", "4294967297", "-4294967295", "9999999999", "-9999999999", "99999999999", "10000000000", "18446744073709551616", "18446744073709551617",
		strings.Repeat("0", 100000), strings.Repeat("9", 100000), "-" + strings.Repeat("1", 100000),
	} {
		if n, ok := word.Parse(s); n != 0 || ok {
			t.Errorf("Parse(%.20q): %d %v", s, n, ok)
		}
	}
}

// do is an operation that must have an answer.
func do(t *testing.T, op int, a, b int32) int32 {
	n, ok := word.Do(op, a, b)
	if !ok {
		t.Fatalf("Do(%s, %d, %d): nothing", names[op-1], a, b)
	}
	return n
}

// TestRing: the laws of Add, Sub and Mul (P1.5).
func TestRing(t *testing.T) {
	l := samples()
	for _, a := range l {
		if do(t, api.Add, a, 0) != a || do(t, api.Mul, a, 1) != a || do(t, api.Mul, 1, a) != a || do(t, api.Sub, a, a) != 0 {
			t.Fatal("nought, one and the opposite of", a)
		}
		for _, b := range l {
			if do(t, api.Add, a, b) != do(t, api.Add, b, a) || do(t, api.Mul, a, b) != do(t, api.Mul, b, a) || do(t, api.Add, do(t, api.Sub, a, b), b) != a {
				t.Fatal("order of, and difference of", a, b)
			}
			for _, c := range l {
				sums := do(t, api.Add, do(t, api.Add, a, b), c) == do(t, api.Add, a, do(t, api.Add, b, c))
				products := do(t, api.Mul, do(t, api.Mul, a, b), c) == do(t, api.Mul, a, do(t, api.Mul, b, c))
				both := do(t, api.Mul, a, do(t, api.Add, b, c)) == do(t, api.Add, do(t, api.Mul, a, b), do(t, api.Mul, a, c))
				if !sums || !products || !both {
					t.Fatal("three of them", a, b, c)
				}
			}
		}
	}
}

// TestRest: a quotient leaves a rest below what it is divided by, with the sign of what was divided (P1.5).
func TestRest(t *testing.T) {
	size := func(n int32) int64 { return max(int64(n), -int64(n)) }
	for _, a := range samples() {
		for _, b := range samples() {
			if b == 0 {
				continue
			}
			rest := do(t, api.Sub, a, do(t, api.Mul, do(t, api.Div, a, b), b))
			if size(rest) >= size(b) || rest != 0 && (rest < 0) != (a < 0) {
				t.Fatal(a, b, rest)
			}
		}
	}
}

// TestHalves: Mul is the lower half of Wide (P1.5).
func TestHalves(t *testing.T) {
	for _, a := range samples() {
		for _, b := range samples() {
			if low, _ := word.Wide(a, b); low != do(t, api.Mul, a, b) {
				t.Fatal(a, b, low)
			}
		}
	}
}
