package moves_test

import (
	"fmt"
	"math"
	"reflect"
	"slices"
	"testing"

	"jacquard/api"
	"jacquard/moves"
	"jacquard/sample"
)

// refused holds that there is no order, and why.
func refused(t *testing.T, name string, l []api.Move, scratch, spare int, want api.Errno) {
	t.Helper()
	if got, e := moves.Order(l, scratch, spare); e != want || len(got) > 0 {
		t.Errorf("%s: %v %v, not %v", name, got, e, want)
	}
}

// accepted holds that there is an order.
func accepted(t *testing.T, name string, l []api.Move, scratch, spare int) {
	t.Helper()
	if got, e := moves.Order(l, scratch, spare); e != api.OK || len(l) > 0 && len(got) == 0 {
		t.Errorf("%s: %v %v", name, got, e)
	}
}

// TestPlaces: a move must be of places (P11.1).
func TestPlaces(t *testing.T) {
	for _, n := range far {
		refused(t, fmt.Sprintf("to %d", n), pairs(1, 2, n, 3), -1, -1, api.ErrPlace)
		refused(t, fmt.Sprintf("from %d", n), pairs(1, 2, 3, n), -1, -1, api.ErrPlace)
		refused(t, fmt.Sprintf("%d of itself", n), pairs(n, n), -1, -1, api.ErrPlace)
	}
	for _, n := range row(0, 1, 15, 16, 17, 16398, 16399) {
		accepted(t, fmt.Sprintf("to %d", n), pairs(n, 3), -1, -1)
		accepted(t, fmt.Sprintf("from %d", n), pairs(3, n, 4, 3), -1, -1)
	}
}

// TestTwice: no two moves have one To (P11.1).
func TestTwice(t *testing.T) {
	refused(t, "of two", pairs(1, 2, 1, 3), -1, -1, api.ErrTwice)
	refused(t, "the same", pairs(1, 2, 1, 2), -1, -1, api.ErrTwice)
	refused(t, "far from each other", pairs(16399, 2, 3, 2, 4, 2, 16399, 7), -1, -1, api.ErrTwice)
	refused(t, "one is there already", pairs(1, 1, 1, 2), -1, -1, api.ErrTwice)
	refused(t, "both are there already", pairs(1, 1, 1, 1), -1, -1, api.ErrTwice)
	accepted(t, "one From", pairs(1, 2, 3, 2), -1, -1)
}

// TestScratch: the scratch register is one, and no move names it (P11.1).
func TestScratch(t *testing.T) {
	for _, n := range row(16, 17, 16399, 1<<32, math.MaxInt) {
		refused(t, fmt.Sprintf("scratch %d", n), pairs(1, 2), n, -1, api.ErrReg)
		refused(t, fmt.Sprintf("scratch %d, for nothing", n), nil, n, -1, api.ErrReg)
	}
	refused(t, "a slot that is named", pairs(20, 2), 20, -1, api.ErrReg)
	for n := range 16 {
		other := (n + 1) % 16
		refused(t, fmt.Sprintf("to scratch %d", n), pairs(n, other), n, -1, api.ErrReg)
		refused(t, fmt.Sprintf("from scratch %d", n), pairs(other, n), n, -1, api.ErrReg)
		refused(t, fmt.Sprintf("scratch %d of itself", n), pairs(n, n), n, -1, api.ErrReg)
		accepted(t, fmt.Sprintf("beside scratch %d", n), pairs(other, 16, (n+2)%16, other), n, -1)
	}
	for _, n := range row(-1, -2, -16, -1<<32, math.MinInt) {
		accepted(t, fmt.Sprintf("scratch %d", n), pairs(1, 2, 2, 1), n, -1)
	}
}

// TestSpare: the spare slots are two, and no move names them (P11.1).
func TestSpare(t *testing.T) {
	for _, n := range row(16383, 16384, 16399, 1<<32, math.MaxInt-16, math.MaxInt-1, math.MaxInt) {
		refused(t, fmt.Sprintf("spare %d", n), pairs(1, 2), -1, n, api.ErrSlot)
		refused(t, fmt.Sprintf("spare %d, for nothing", n), nil, 3, n, api.ErrSlot)
	}
	for _, n := range row(0, 1, 5, 16381, 16382) {
		for _, at := range row(16+n, 17+n) {
			refused(t, fmt.Sprintf("to spare %d", at), pairs(at, 1), -1, n, api.ErrSlot)
			refused(t, fmt.Sprintf("from spare %d", at), pairs(1, at), 3, n, api.ErrSlot)
			refused(t, fmt.Sprintf("spare %d of itself", at), pairs(at, at), -1, n, api.ErrSlot)
		}
		accepted(t, fmt.Sprintf("ahead of spare %d", n), pairs(1, 15+n), -1, n)
		if behind := 18 + n; behind < 16+api.MaxSlots {
			accepted(t, fmt.Sprintf("behind spare %d", n), pairs(1, behind), -1, n)
		}
	}
	for _, n := range row(-1, -2, -16, -17, -1<<32, math.MinInt) {
		accepted(t, fmt.Sprintf("spare %d", n), pairs(0, 1, 15, 16, 1, 2), -1, n)
	}
}

// TestFirst: of several errors the first one is told (P11.1).
func TestFirst(t *testing.T) {
	errors := []api.Errno{api.ErrPlace, api.ErrTwice, api.ErrReg, api.ErrSlot}
	for wrong := range 16 {
		for way := range 8 {
			l, scratch, spare := pairs(1, 2, 2, 16), 7, 7
			if wrong&8 > 0 {
				spare = []int{16383, 0}[way&1]
			}
			if wrong&4 > 0 {
				scratch = []int{16, 2}[way>>1&1]
			}
			if wrong&2 > 0 {
				l = append(l, api.Move{To: 1, From: 3})
			}
			if wrong&1 > 0 {
				l = append(l, []api.Move{{To: 4, From: 16400}, {To: -1, From: 4}}[way>>2])
			}
			if wrong == 0 {
				accepted(t, "nothing wrong", l, scratch, spare)
				continue
			}
			first := 0
			for wrong>>first&1 == 0 {
				first++
			}
			refused(t, fmt.Sprintf("%v, %d, %d", l, scratch, spare), l, scratch, spare, errors[first])
		}
	}
	// What lacks for the moves themselves is no matter, as long as something else is wrong.
	refused(t, "a scratch that is none, and nothing spare", pairs(16, 17), 16, -1, api.ErrReg)
}

// everywhere are moves to all places but the last two slots, each from the place that next tells.
func everywhere(next func(int) int) []api.Move {
	var l []api.Move
	for to := range 16 + api.MaxSlots - 2 {
		l = append(l, api.Move{To: to, From: next(to)})
	}
	return l
}

// upTo are the numbers up to one.
func upTo(top int) []int {
	var l []int
	for n := range top {
		l = append(l, n)
	}
	return l
}

// TestLong: as many moves as there may be are laid, and do what they do all at once; those of slots by register 0 (P11.1, P11.5).
func TestLong(t *testing.T) {
	const top = 16 + api.MaxSlots - 2
	shuffle := shuffled(sample.Numbers(29), upTo(top))
	for _, x := range []struct {
		name string
		next func(int) int
		many int
	}{
		{"a row that falls", func(n int) int { return min(n+1, top-1) }, 15 + 1 + 4*(top-17)},
		{"a row that rises", func(n int) int { return max(n-1, 0) }, 15 + 1 + 4*(top-17)},
		{"all from one", func(int) int { return 0 }, top - 1},
		{"one circle", func(n int) int { return (n + 1) % top }, 1 + 15 + 1 + 4*(top-17) + 4},
		{"circles of two", func(n int) int { return n ^ 1 }, 8 + 12*(top-16)/2},
		{"any circles", func(n int) int { return shuffle[n] }, -1},
		{"from any", func(n int) int { return shuffle[n] / 3 }, -1},
		{"as it is", func(n int) int { return n }, 0},
	} {
		l := everywhere(x.next)
		order, e := moves.Order(l, -1, api.MaxSlots-2)
		if e != api.OK || x.many >= 0 && len(order) != x.many {
			t.Fatalf("%s: %d %v, not %d", x.name, len(order), e, x.many)
		}
		places := distinct(top + 2)
		want, got := moves.After(l, places), moves.Do(order, places)
		if !slices.Equal(got[:top], want[:top]) {
			t.Errorf("%s: something else is done", x.name)
		}
		if again, _ := moves.Order(l, -1, api.MaxSlots-2); !same(again, order) {
			t.Errorf("%s: another order", x.name)
		}
	}
	if got := moves.Circles(everywhere(func(n int) int { return (n + 1) % top })); len(got) != 1 || !slices.Equal(got[0], upTo(top)) {
		t.Errorf("%d circles", len(got))
	}
}

// TestManyOfOne: moves of one To, and instructions, as often as one likes (P11.2 to P11.4).
func TestManyOfOne(t *testing.T) {
	const many = 300000
	var l []api.Move
	var ins []api.Mach
	for n := range many {
		l = append(l, pairs(1, 2+n%3, 2, n%2)...)
		ins = append(ins, swap(0, 1), swap(1, 2))
	}
	l = append(l, pairs(1, 2)...)
	if got := moves.Circles(l); !slices.EqualFunc(got, [][]int{{1, 2}}, slices.Equal) {
		t.Errorf("%v", got)
	}
	if got := moves.After(l, distinct(5)); !slices.Equal(got, []int32{1000, 1002, 1001, 1003, 1004}) {
		t.Errorf("%v", got)
	}
	if got := moves.Do(ins, distinct(3)); !slices.Equal(got, distinct(3)) {
		t.Errorf("%v", got)
	}
	refused(t, "of one To", l, -1, -1, api.ErrTwice)
	// A way of as many places as one likes, with a circle at its end that is come to from below.
	l = nil
	for n := range many {
		l = append(l, api.Move{To: n, From: n + 1})
	}
	l = append(l, pairs(many, many-2)...)
	if got := moves.Circles(l); !slices.EqualFunc(got, [][]int{{many - 2, many - 1, many}}, slices.Equal) {
		t.Errorf("%v", got)
	}
}

// answers are all that is told of moves.
func answers(l []api.Move, ins []api.Mach, places []int32) []any {
	all := []any{moves.After(l, places), moves.Do(ins, places), moves.Circles(l)}
	for _, x := range helps {
		order, e := moves.Order(l, x.scratch, x.spare)
		all = append(all, order, e)
	}
	return all
}

// TestKept: what is handed in stays as it was, and is not kept; answers are the caller's, share nothing, and are the same each time (R1, R3, R4).
func TestKept(t *testing.T) {
	next := sample.Numbers(31)
	for range 500 {
		own := shuffled(next, row(0, 1, 2, 3, 4, 15, 16, 17, 18, 20))
		l, places := round(next, own), distinct(30)
		var ins []api.Mach
		for range 5 {
			ins = append(ins, anyIns(next))
		}
		keptL, keptIns := slices.Clone(l), sample.CopiedCode(api.MFunc{Blocks: []api.MBlock{{Ins: ins}}}).Blocks[0].Ins
		first, second := answers(l, ins, places), answers(l, ins, places)
		if !slices.Equal(l, keptL) || !reflect.DeepEqual(ins, keptIns) || !slices.Equal(places, distinct(30)) {
			t.Fatalf("%v, %v: changed", keptL, keptIns)
		}
		if !reflect.DeepEqual(first, second) {
			t.Fatalf("%v: %v, and then %v", l, first, second)
		}
		sample.ScribbleRows(second)
		if !slices.Equal(l, keptL) || !reflect.DeepEqual(ins, keptIns) || !slices.Equal(places, distinct(30)) {
			t.Fatalf("%v: what is told is what was handed in", keptL)
		}
		clear(l)
		clear(ins)
		clear(places)
		if again := answers(keptL, keptIns, distinct(30)); !reflect.DeepEqual(first, again) {
			t.Fatalf("%v: %v became %v", keptL, again, first)
		}
	}
	// Rows of one answer do not lie one behind the other.
	all := moves.Circles(pairs(0, 1, 1, 0, 2, 3, 3, 2, 4, 5, 5, 4))
	for n := range all {
		_ = append(all[n], 99)
	}
	if !slices.EqualFunc(all, [][]int{{0, 1}, {2, 3}, {4, 5}}, slices.Equal) {
		t.Errorf("%v", all)
	}
}
