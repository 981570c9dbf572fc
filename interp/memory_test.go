package interp_test

import (
	"math"
	"slices"
	"testing"

	"jacquard/api"
	"jacquard/interp"
)

// counted is a row of so many words: 1, 2 and so on.
func counted(count int) []int32 {
	l := make([]int32, count)
	for n := range l {
		l[n] = int32(n + 1)
	}
	return l
}

// TestMemory: the first words, as many as there may be (P4.1), in a row of its own (P4.4).
func TestMemory(t *testing.T) {
	for _, x := range []struct{ words, want int }{{0, 0}, {1, 1}, {7, 7}, {4095, 4095}, {4096, 4096}, {4097, 4096}, {10000, 4096}} {
		words := counted(x.words)
		mem := interp.Memory(api.Input{Args: []int32{-1, -2}, Mem: words, Answers: []int32{-3}, Steps: 2})
		if !slices.Equal(mem, counted(x.want)) {
			t.Errorf("%d words: %d", x.words, len(mem))
		}
		clear(mem)
		if !slices.Equal(words, counted(x.words)) {
			t.Errorf("%d words: not a row of its own", x.words)
		}
		mem = interp.Memory(api.Input{Mem: words})
		clear(words)
		if !slices.Equal(mem, counted(x.want)) {
			t.Errorf("%d words: kept", x.words)
		}
	}
	if l := interp.Memory(api.Input{Steps: 9}); len(l) != 0 {
		t.Error(l)
	}
	// What stands behind the words of a row is nobody's.
	long := counted(9)
	_ = append(interp.Memory(api.Input{Mem: long[:4]}), 77)
	if !slices.Equal(long, counted(9)) {
		t.Error(long)
	}
}

// addresses are those at the ends of memories of a few lengths, and far ones.
func addresses() []int32 {
	return []int32{math.MinInt32, math.MinInt32 + 1, -4097, -4096, -2, -1, 0, 1, 2, 3, 4, 5, 4095, 4096, 4097, 4999, 5000, 5001, 65536, math.MaxInt32 - 1, math.MaxInt32}
}

// TestLoad: words that there are, and those that there are not (P4.1).
func TestLoad(t *testing.T) {
	for _, length := range []int{0, 1, 4, 4096, 5000} {
		mem := counted(length)
		for _, at := range addresses() {
			v, ok := interp.Load(mem, at)
			want := int64(at) >= 0 && int64(at) < int64(length)
			if ok != want || ok && v != at+1 || !ok && v != 0 {
				t.Errorf("%d words: at %d: %d, %t", length, at, v, ok)
			}
		}
		if !slices.Equal(mem, counted(length)) {
			t.Errorf("%d words: changed", length)
		}
	}
	if v, ok := interp.Load(nil, 0); v != 0 || ok {
		t.Error(v, ok)
	}
	if interp.Store(nil, 0, 5) {
		t.Error("stored to nothing")
	}
}

// TestStore: just the word that there is changes (P4.1).
func TestStore(t *testing.T) {
	for _, length := range []int{0, 1, 4, 4096, 5000} {
		for _, at := range addresses() {
			mem, want := counted(length+1), counted(length+1)
			so := int64(at) >= 0 && int64(at) < int64(length)
			if so {
				want[at] = -9
			}
			// One word more lies behind the row that is handed in.
			if ok := interp.Store(mem[:length], at, -9); ok != so || !slices.Equal(mem, want) {
				t.Errorf("%d words: at %d: %t", length, at, ok)
			}
			if v, ok := interp.Load(mem[:length], at); so && (v != -9 || !ok) {
				t.Errorf("%d words: at %d: then %d, %t", length, at, v, ok)
			}
		}
	}
}
