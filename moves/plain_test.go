package moves_test

import (
	"math"
	"slices"
	"testing"

	"jacquard/api"
	"jacquard/moves"
)

// plain are moves with what may help, and what is laid.
type plain struct {
	name           string
	l              []api.Move
	scratch, spare int
	want           []api.Mach
	e              api.Errno
}

// laid are instructions.
func laid(l ...api.Mach) []api.Mach { return l }

// lacks is an order that can't be.
func lacks(name string, l []api.Move, scratch, spare int) plain {
	return plain{name, l, scratch, spare, nil, api.ErrSlot}
}

// examples are the document's.
func examples() []plain {
	return []plain{
		{"a row", pairs(2, 1, 1, 0), -1, -1, laid(mov(2, 1), mov(1, 0)), api.OK},
		{"by a swap", pairs(0, 1, 1, 0), -1, -1, laid(swap(0, 1)), api.OK},
		{"by a scratch", pairs(0, 1, 1, 0), 5, -1, laid(mov(5, 0), mov(0, 1), mov(1, 5)), api.OK},
		{"a slot out of a slot", pairs(16, 17), -1, 7, laid(sst(0, 8), sld(0, 1), sst(0, 0), sld(0, 8)), api.OK},
		lacks("a slot out of a slot, by nothing", pairs(16, 17), -1, -1),
	}
}

// straight are moves that do not go round.
func straight() []plain {
	return []plain{
		{"nothing", nil, -1, -1, nil, api.OK},
		{"what is there already", pairs(3, 3, 16, 16, 15, 15, 16399, 16399), -1, -1, nil, api.OK},
		{"one register", pairs(15, 0), -1, -1, laid(mov(15, 0)), api.OK},
		{"out of a slot", pairs(4, 16), -1, -1, laid(sld(4, 0)), api.OK},
		{"into a slot", pairs(16, 4), -1, -1, laid(sst(4, 0)), api.OK},
		{"the last slot", pairs(1, 16399, 16398, 2), -1, -1, laid(sld(1, 16383), sst(2, 16382)), api.OK},
		{"the least first", pairs(9, 0, 7, 0, 8, 0, 20, 0, 1, 0), -1, -1, laid(mov(1, 0), mov(7, 0), mov(8, 0), mov(9, 0), sst(0, 4)), api.OK},
		{"a row that falls", pairs(1, 2, 2, 3, 3, 4), -1, -1, laid(mov(1, 2), mov(2, 3), mov(3, 4)), api.OK},
		{"a row that rises", pairs(2, 1, 3, 2, 4, 3), -1, -1, laid(mov(4, 3), mov(3, 2), mov(2, 1)), api.OK},
		{"what comes free is the least", pairs(5, 1, 1, 9, 6, 9, 9, 0), -1, -1, laid(mov(5, 1), mov(1, 9), mov(6, 9), mov(9, 0)), api.OK},
		{"what comes free is not the least", pairs(3, 8, 8, 2, 4, 2, 2, 0), -1, -1, laid(mov(3, 8), mov(4, 2), mov(8, 2), mov(2, 0)), api.OK},
		{"several take, the last one sets free", pairs(3, 1, 7, 1, 1, 2, 5, 0), -1, -1, laid(mov(3, 1), mov(5, 0), mov(7, 1), mov(1, 2)), api.OK},
		{"one that takes of itself sets nothing free", pairs(1, 1, 2, 1, 3, 2), -1, -1, laid(mov(3, 2), mov(2, 1)), api.OK},
		{"a slot out of a slot, by a scratch", pairs(16, 17), 0, -1, laid(sld(0, 1), sst(0, 0)), api.OK},
		{"a slot out of a slot, by a scratch and not by what is spare", pairs(17, 16), 15, 7, laid(sld(15, 0), sst(15, 1)), api.OK},
		{"a slot out of a slot, by register 0, that is moved as well", pairs(0, 3, 4, 0, 20, 21), -1, 0, laid(mov(4, 0), mov(0, 3), sst(0, 1), sld(0, 5), sst(0, 4), sld(0, 1)), api.OK},
		{"by the last slots", pairs(16, 17), -1, 16382, laid(sst(0, 16383), sld(0, 1), sst(0, 0), sld(0, 16383)), api.OK},
		lacks("a slot out of a slot, last of all, by nothing", pairs(1, 2, 16, 3, 18, 17), -1, -1),
	}
}

// rounds are moves that go round.
func rounds() []plain {
	three := pairs(3, 4, 4, 9, 9, 3)
	mixed := pairs(2, 17, 17, 1, 1, 2)
	slots := pairs(16, 18, 18, 17, 17, 16)
	return []plain{
		{"three by swaps", three, -1, -1, laid(swap(3, 4), swap(4, 9)), api.OK},
		{"three by a scratch", three, 0, -1, laid(mov(0, 3), mov(3, 4), mov(4, 9), mov(9, 0)), api.OK},
		{"the other way round", pairs(3, 9, 4, 3, 9, 4), -1, -1, laid(swap(3, 9), swap(9, 4)), api.OK},
		{"registers need nothing spare", three, -1, 4, laid(swap(3, 4), swap(4, 9)), api.OK},
		{"two circles", pairs(8, 0, 5, 6, 0, 8, 6, 5), -1, -1, laid(swap(0, 8), swap(5, 6)), api.OK},
		{"two circles, by a scratch", pairs(8, 0, 5, 6, 0, 8, 6, 5), 2, -1, laid(mov(2, 0), mov(0, 8), mov(8, 2), mov(2, 5), mov(5, 6), mov(6, 2)), api.OK},
		{"what hangs on it goes first", pairs(1, 2, 2, 1, 3, 2, 0, 3), -1, -1, laid(mov(0, 3), mov(3, 2), swap(1, 2)), api.OK},
		{"with a slot", mixed, -1, 4, laid(sst(1, 4), mov(1, 2), sld(2, 1), sst(0, 5), sld(0, 4), sst(0, 1), sld(0, 5)), api.OK},
		{"of slots, by register 0", slots, -1, 7, laid(
			sst(0, 8), sld(0, 0), sst(0, 7), sld(0, 8),
			sst(0, 8), sld(0, 2), sst(0, 0), sld(0, 8),
			sst(0, 8), sld(0, 1), sst(0, 2), sld(0, 8),
			sst(0, 8), sld(0, 7), sst(0, 1), sld(0, 8)), api.OK},
		{"of slots, by a scratch", slots, 3, 7, laid(sld(3, 0), sst(3, 7), sld(3, 2), sst(3, 0), sld(3, 1), sst(3, 2), sld(3, 7), sst(3, 1)), api.OK},
		{"a register and a slot, by what is spare and not by the scratch", pairs(0, 16, 16, 0), 3, 7, laid(sst(0, 7), sld(0, 0), sld(3, 7), sst(3, 0)), api.OK},
		{"with a slot, by the first slots", pairs(0, 18, 18, 0), -1, 0, laid(sst(0, 0), sld(0, 2), sst(0, 1), sld(0, 0), sst(0, 2), sld(0, 1)), api.OK},
		lacks("with a slot, by nothing", pairs(0, 16, 16, 0), -1, -1),
		lacks("with a slot, by a scratch alone", pairs(0, 16, 16, 0), 3, -1),
		lacks("of slots, by a scratch alone", slots, 3, -1),
		lacks("with a slot, behind one of registers", pairs(1, 2, 2, 1, 4, 16, 16, 4), -1, -1),
	}
}

// TestPlain: what is written out is laid (P11.1).
func TestPlain(t *testing.T) {
	for _, x := range slices.Concat(examples(), straight(), rounds()) {
		got, e := moves.Order(x.l, x.scratch, x.spare)
		if e != x.e || !same(got, x.want) {
			t.Errorf("%s: %v %v, not %v %v", x.name, got, e, x.want, x.e)
		}
		if want, wrong := byWords(x.l, x.scratch, x.spare); wrong != x.e || !same(want, x.want) {
			t.Errorf("%s, by the words: %v %v", x.name, want, wrong)
		}
	}
}

// TestAfterPlain: what is written out is had behind moves (P11.2).
func TestAfterPlain(t *testing.T) {
	for _, x := range []struct {
		name         string
		l            []api.Move
		places, want []int32
	}{
		{"nothing", nil, []int32{4, 5}, []int32{4, 5}},
		{"no places", pairs(0, 1, 1, 0), nil, nil},
		{"all at once", pairs(0, 1, 1, 2, 2, 0), []int32{4, 5, 6}, []int32{5, 6, 4}},
		{"one to several", pairs(0, 2, 1, 2, 2, 2), []int32{4, 5, 6}, []int32{6, 6, 6}},
		{"of one To the last", pairs(0, 1, 0, 2), []int32{4, 5, 6}, []int32{6, 5, 6}},
		{"of one To the last, which is its own", pairs(0, 1, 0, 0), []int32{4, 5}, []int32{4, 5}},
		{"of one To the last, which there is not", pairs(0, 1, 0, 2), []int32{4, 5}, []int32{0, 5}},
		{"out of what there is not", pairs(0, 3, 1, -1), []int32{4, 5, 6}, []int32{0, 0, 6}},
		{"into what there is not", pairs(3, 0, -1, 0, math.MinInt, 1, math.MaxInt, 1), []int32{4, 5, 6}, []int32{4, 5, 6}},
		{"out of what is far off", pairs(0, math.MinInt, 1, math.MaxInt), []int32{4, 5, 6}, []int32{0, 0, 6}},
		{"of any words", pairs(0, 1, 1, 0), []int32{math.MinInt32, math.MaxInt32}, []int32{math.MaxInt32, math.MinInt32}},
	} {
		if got := moves.After(x.l, x.places); !slices.Equal(got, x.want) {
			t.Errorf("%s: %v, not %v", x.name, got, x.want)
		}
	}
	slots := moves.After(pairs(16, 0, 0, 17, 15, 16), distinct(18))
	if want := distinct(18); slots[16] != want[0] || slots[0] != want[17] || slots[15] != want[16] || slots[17] != want[17] {
		t.Errorf("slots have %v", slots)
	}
}

// done are instructions, and what places have behind them.
type done struct {
	name         string
	l            []api.Mach
	places, want []int32
}

// someRegisters are instructions with the first registers alone.
func someRegisters() []done {
	return []done{
		{"nothing", nil, []int32{4, 5}, []int32{4, 5}},
		{"no places", laid(mov(0, 1), swap(0, 1), sst(0, 0), sld(0, 0)), nil, nil},
		{"one by one", laid(mov(0, 1), mov(1, 2), mov(2, 0)), []int32{4, 5, 6}, []int32{5, 6, 5}},
		{"a swap", laid(swap(0, 2)), []int32{4, 5, 6}, []int32{6, 5, 4}},
		{"a swap of one", laid(swap(1, 1)), []int32{4, 5, 6}, []int32{4, 5, 6}},
		{"a swap with what there is not", laid(swap(0, 3), swap(-1, 1)), []int32{4, 5, 6}, []int32{0, 0, 6}},
		{"numbers", laid(api.Mach{Op: api.MLi, D: 0, A: 1, Imm: math.MaxInt32}, api.Mach{Op: api.MLiw, D: 1, Imm: math.MinInt32}), []int32{4, 5, 6}, []int32{math.MaxInt32, math.MinInt32, 6}},
		{"numbers into what there is not", laid(api.Mach{Op: api.MLi, D: 3, Imm: 9}, api.Mach{Op: api.MLiw, D: -1, Imm: 9}), []int32{4, 5, 6}, []int32{4, 5, 6}},
		{"out of what there is not", laid(mov(0, 3), mov(1, -1)), []int32{4, 5, 6}, []int32{0, 0, 6}},
		{"into what there is not", laid(mov(3, 0), mov(-1, 0), mov(math.MaxInt, 0), mov(math.MinInt, 0)), []int32{4, 5, 6}, []int32{4, 5, 6}},
		{"out of slots that there are not", laid(sld(0, 0), sld(1, 9)), []int32{4, 5, 6}, []int32{0, 0, 6}},
		{"into slots that there are not", laid(sst(0, 0), sst(1, 9)), []int32{4, 5, 6}, []int32{4, 5, 6}},
	}
}

// withSlots are instructions with all registers, and two slots.
func withSlots() []done {
	start := distinct(18)
	turn := func(l ...int32) []int32 {
		own := slices.Clone(start)
		for n := 0; n < len(l); n += 2 {
			own[l[n]] = l[n+1]
		}
		return own
	}
	return []done{
		{"out of a slot", laid(sld(3, 1), sld(15, 0)), start, turn(3, 1017, 15, 1016)},
		{"into a slot", laid(sst(3, 1), sst(15, 0)), start, turn(17, 1003, 16, 1015)},
		{"there and back", laid(sst(3, 0), mov(3, 4), sld(5, 0)), start, turn(16, 1003, 3, 1004, 5, 1003)},
		{"register 16 is no slot", laid(mov(0, 16), mov(16, 1), swap(2, 17), api.Mach{Op: api.MLi, D: 17, Imm: 5}), start, turn(0, 0, 2, 0)},
		{"out of slots that are none", laid(sld(0, -1), sld(1, 2), sld(2, -16), sld(3, math.MinInt32), sld(4, math.MaxInt32)), start, turn(0, 0, 1, 0, 2, 0, 3, 0, 4, 0)},
		{"into slots that are none", laid(sst(0, -1), sst(1, 2), sst(2, -16), sst(3, math.MinInt32), sst(4, math.MaxInt32)), start, start},
		{"a slot and a register that is none", laid(sld(16, 0), sst(17, 0), sst(-1, 1), sld(-1, 1)), start, turn(16, 0, 17, 0)},
	}
}

// TestDoPlain: what is written out is had behind instructions (P11.3).
func TestDoPlain(t *testing.T) {
	for _, x := range slices.Concat(someRegisters(), withSlots()) {
		if got := moves.Do(x.l, x.places); !slices.Equal(got, x.want) {
			t.Errorf("%s: %v, not %v", x.name, got, x.want)
		}
	}
}

// TestDoNothing: all other operations do nothing (P11.3).
func TestDoNothing(t *testing.T) {
	does := row(api.MMov, api.MSwap, api.MLi, api.MLiw, api.MSld, api.MSst)
	ops := append(row(-31, -30, -3, 256+1, 1<<32+1), far...)
	for op := range 70 {
		ops = append(ops, op)
	}
	for _, op := range ops {
		i := api.Mach{Op: op, D: 1, E: 2, A: 3, B: 4, C: 5, Imm: 1, Args: row(0, 1)}
		got := moves.Do(laid(i), distinct(18))
		if slices.Equal(got, distinct(18)) == slices.Contains(does, op) {
			t.Errorf("operation %d: %v", op, got)
		}
	}
}

// TestCirclesPlain: the circles that are written out are told (P11.4).
func TestCirclesPlain(t *testing.T) {
	for _, x := range []struct {
		name string
		l    []api.Move
		want [][]int
	}{
		{"nothing", nil, nil},
		{"a row", pairs(1, 2, 2, 3), nil},
		{"of one place", pairs(1, 1, 16, 16), nil},
		{"of two", pairs(2, 1, 1, 2), [][]int{{1, 2}}},
		{"of three", pairs(9, 3, 3, 4, 4, 9), [][]int{{3, 4, 9}}},
		{"of three, the other way round", pairs(9, 4, 3, 9, 4, 3), [][]int{{3, 9, 4}}},
		{"several, and a slot", pairs(16, 4, 4, 16, 8, 2, 2, 8, 0, 12, 12, 1, 1, 0), [][]int{{0, 12, 1}, {2, 8}, {4, 16}}},
		{"with what hangs on it", pairs(1, 2, 2, 1, 3, 2, 0, 3, 5, 5), [][]int{{1, 2}}},
		{"one that is come to from below the other", pairs(0, 5, 5, 6, 6, 5, 3, 4, 4, 3), [][]int{{3, 4}, {5, 6}}},
		{"of one To the last counts", pairs(0, 1, 1, 0, 0, 2), nil},
		{"of one To the last counts, which closes it", pairs(0, 2, 1, 0, 0, 1), [][]int{{0, 1}}},
		{"of one To the last counts, which is its own", pairs(0, 1, 1, 0, 0, 0), nil},
		{"any numbers", pairs(-1, math.MinInt, math.MinInt, math.MaxInt, math.MaxInt, -1, 20000, -9, -9, 20000), [][]int{{math.MinInt, math.MaxInt, -1}, {-9, 20000}}},
	} {
		got := moves.Circles(x.l)
		if !slices.EqualFunc(got, x.want, slices.Equal) {
			t.Errorf("%s: %v, not %v", x.name, got, x.want)
		}
		if again := circlesByWords(x.l); !slices.EqualFunc(again, x.want, slices.Equal) {
			t.Errorf("%s, by the words: %v", x.name, again)
		}
	}
}
