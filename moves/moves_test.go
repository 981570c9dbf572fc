package moves_test

import (
	"maps"
	"math"
	"reflect"
	"slices"
	"testing"

	"jacquard/api"
	"jacquard/mach"
	"jacquard/moves"
	"jacquard/sample"
)

// far are numbers of no place.
var far = []int{math.MinInt, -1 << 32, -17, -2, -1, 16 + api.MaxSlots, 1 << 32, math.MaxInt}

// mov is a copy of a register.
func mov(d, a int) api.Mach { return api.Mach{Op: api.MMov, D: d, A: a} }

// Short forms for what is written out.
var swap, sld, sst = sample.MSwap, sample.MSld, sample.MSst

// pairs are moves: each a place, and where it takes from.
func pairs(l ...int) []api.Move {
	var all []api.Move
	for n := 0; n < len(l); n += 2 {
		all = append(all, api.Move{To: l[n], From: l[n+1]})
	}
	return all
}

// distinct are as many places with a number each, all others.
func distinct(many int) []int32 {
	var l []int32
	for n := range many {
		l = append(l, int32(1000+n))
	}
	return l
}

// helps are what there may be beside the moves: a scratch register, and spare slots, by what tests leave alone.
var helps = []struct{ scratch, spare int }{{-1, -1}, {5, -1}, {-1, 7}, {5, 7}, {math.MinInt, math.MinInt}}

// tally counts what orders had to lay, so that there is some of all.
type tally struct {
	ops          map[int]int
	lacks, empty int
}

// note counts what was told.
func (c *tally) note(l []api.Mach, e api.Errno) {
	for _, i := range l {
		c.ops[i.Op]++
	}
	if e != api.OK {
		c.lacks++
	} else if len(l) == 0 {
		c.empty++
	}
}

// enough holds that there was so much of all.
func (c *tally) enough(t *testing.T, least int) {
	t.Helper()
	for _, op := range row(api.MMov, api.MSwap, api.MSld, api.MSst) {
		if c.ops[op] < least {
			t.Errorf("only %d of operation %d", c.ops[op], op)
		}
	}
	if c.lacks < least || len(c.ops) != 4 {
		t.Errorf("only %+v", *c)
	}
}

// row is one of numbers.
func row(l ...int) []int { return l }

// hold holds an order against what its words tell, whatever order the moves stand in; and what it does against what they do all at once.
func hold(t *testing.T, c *tally, l []api.Move, scratch, spare int) {
	t.Helper()
	want, wrong := byWords(l, scratch, spare)
	c.note(want, wrong)
	back := slices.Clone(l)
	slices.Reverse(back)
	for _, own := range [][]api.Move{l, back} {
		got, e := moves.Order(own, scratch, spare)
		if e != wrong || !same(got, want) {
			t.Fatalf("%v (%d, %d): %v %v, not %v %v", own, scratch, spare, got, e, want, wrong)
		}
	}
	if wrong == api.OK {
		follows(t, l, want, scratch, spare)
	}
}

// same tells whether instructions are the same, in all fields.
func same(a, b []api.Mach) bool {
	return slices.EqualFunc(a, b, func(a, b api.Mach) bool { return reflect.DeepEqual(a, b) })
}

// follows holds that what an order does is what its moves do, but to what is spare (P11.5).
func follows(t *testing.T, l []api.Move, order []api.Mach, scratch, spare int) {
	t.Helper()
	places := distinct(40)
	want, got := moves.After(l, places), moves.Do(order, places)
	for n := range places {
		if n == scratch || spare >= 0 && (n == 16+spare || n == 17+spare) {
			continue
		}
		if got[n] != want[n] {
			t.Fatalf("%v (%d, %d) by %v: %d has %d, not %d", l, scratch, spare, order, n, got[n], want[n])
		}
	}
}

// everyWay tells all moves to some places: each takes from one of them, or from none.
func everyWay(places []int) func(yield func([]api.Move) bool) {
	return func(yield func([]api.Move) bool) {
		var l []api.Move
		var on func(n int) bool
		on = func(n int) bool {
			if n == len(places) {
				return yield(slices.Clone(l))
			}
			if !on(n + 1) {
				return false
			}
			for _, from := range places {
				l = append(l, api.Move{To: places[n], From: from})
				more := on(n + 1)
				l = l[:len(l)-1]
				if !more {
					return false
				}
			}
			return true
		}
		on(0)
	}
}

// TestEveryWay: of all moves of a few places just what the words tell is laid, and does what the moves do (P11.1, P11.5).
func TestEveryWay(t *testing.T) {
	c := tally{ops: map[int]int{}}
	for l := range everyWay(row(0, 1, 3, 16, 18)) {
		for _, x := range helps {
			hold(t, &c, l, x.scratch, x.spare)
		}
	}
	c.enough(t, 1500)
	if c.empty < 32*len(helps) {
		t.Errorf("only %d of nothing", c.empty)
	}
}

// some are moves to some of many places, in any order; of few or of many From.
func some(next func(int) int, places []int) []api.Move {
	lacks, few := 1+next(4), 1+next(len(places))
	var l []api.Move
	for _, to := range places {
		if next(lacks) == 0 {
			m := api.Move{To: to, From: places[next(few)]}
			l = slices.Insert(l, next(len(l)+1), m)
		}
	}
	return l
}

// round are moves that go round, in some circles, of some places; others take from these.
func round(next func(int) int, places []int) []api.Move {
	left := shuffled(next, places)
	var l []api.Move
	for len(left) > 0 {
		many := 1 + next(len(left))
		for n := range many {
			l = append(l, api.Move{To: left[n], From: left[(n+1)%many]})
		}
		if next(3) == 0 {
			l[len(l)-1].From = places[next(len(places))]
		}
		left = left[many:]
	}
	return l
}

// shuffled are numbers in any order.
func shuffled(next func(int) int, l []int) []int {
	var own []int
	for _, n := range l {
		own = slices.Insert(own, next(len(own)+1), n)
	}
	return own
}

// TestSecond: of moves of many places, too (P11.1, P11.5).
func TestSecond(t *testing.T) {
	next := sample.Numbers(11)
	c := tally{ops: map[int]int{}}
	registers := row(0, 1, 2, 3, 4, 6, 7, 8, 9, 10, 11, 12, 13, 14, 15)
	slots := row(16, 17, 18, 19, 20, 21, 22, 25, 26, 27, 28, 39)
	for range 800 {
		for _, places := range [][]int{registers, slots, slices.Concat(registers, slots)} {
			own := shuffled(next, places)[:1+next(len(places))]
			for _, l := range [][]api.Move{some(next, own), round(next, own)} {
				x := helps[next(len(helps))]
				hold(t, &c, l, x.scratch, x.spare)
			}
		}
	}
	c.enough(t, 500)
}

// TestFewest: an order has an instruction for each move of registers, for each circle one more, and without a scratch one less (P11.5).
func TestFewest(t *testing.T) {
	next := sample.Numbers(13)
	circles := 0
	for range 2000 {
		l := round(next, shuffled(next, row(0, 1, 2, 3, 4, 6, 7, 8, 9, 10, 11, 12, 13, 14, 15))[:1+next(15)])
		moved := len(l) - len(slices.DeleteFunc(slices.Clone(l), func(m api.Move) bool { return m.To != m.From }))
		rounds := len(moves.Circles(l))
		circles += rounds
		for scratch, want := range map[int]int{-1: moved - rounds, 5: moved + rounds} {
			if order, e := moves.Order(l, scratch, -1); e != api.OK || len(order) != want {
				t.Fatalf("%v (%d): %v %v, not %d", l, scratch, order, e, want)
			}
		}
	}
	if circles < 2000 {
		t.Errorf("only %d circles", circles)
	}
}

// TestCirclesSecond: the circles that the words tell are told, of moves with one To as well, whatever numbers they have (P11.4).
func TestCirclesSecond(t *testing.T) {
	next := sample.Numbers(17)
	counts := map[int]int{}
	check := func(l []api.Move) {
		got, want := moves.Circles(l), circlesByWords(l)
		if !slices.EqualFunc(got, want, slices.Equal) {
			t.Fatalf("%v: %v, not %v", l, got, want)
		}
		counts[min(len(want), 3)]++
	}
	for l := range everyWay(row(-3, 0, 4, 16, 20000)) {
		check(l)
	}
	places := slices.Concat(far, row(0, 1, 2, 3, 14, 15, 16, 17, 18, 5000))
	for range 3000 {
		own := shuffled(next, places)[:1+next(len(places))]
		l := slices.Concat(round(next, own), some(next, own), round(next, own[:1+next(len(own))]))
		check(l)
		check(l[:next(len(l)+1)])
		check(round(next, own))
	}
	for n := range 4 {
		if counts[n] < 200 {
			t.Errorf("only %d of %d circles", counts[n], n)
		}
	}
}

// TestMach: orders of registers do the same by layer 7, which says what instructions do (P11.5).
func TestMach(t *testing.T) {
	next := sample.Numbers(37)
	for range 2000 {
		l := round(next, shuffled(next, row(0, 1, 2, 3, 4, 6, 9, 14, 15))[:1+next(9)])
		for _, scratch := range row(-1, 5) {
			order, e := moves.Order(l, scratch, -1)
			regs := distinct(16)
			for _, i := range order {
				mach.Do(i, regs, nil)
			}
			want := moves.After(l, distinct(16))
			if scratch >= 0 {
				want[scratch] = regs[scratch]
			}
			if e != api.OK || !slices.Equal(regs, want) {
				t.Fatalf("%v by %v %v: %v, not %v", l, order, e, regs, want)
			}
		}
	}
}

// anyIns is an instruction of any operation and any registers; most often one that does something.
func anyIns(next func(int) int) api.Mach {
	number := func() int {
		if next(6) == 0 {
			return sample.One(next, append(row(16, 17, 39, 40), far...)...)
		}
		return next(16)
	}
	i := api.Mach{Op: next(34) - 1, D: number(), E: number(), A: number(), B: number(), C: number(), Imm: int32(next(28) - 2), Args: row(number(), number())}
	if next(3) > 0 {
		i.Op = sample.One(next, api.MMov, api.MSwap, api.MLi, api.MLiw, api.MSld, api.MSst)
	}
	if next(8) == 0 {
		i.Imm = sample.One[int32](next, math.MinInt32, math.MinInt32+16, -17, -16, 16383, 16384, math.MaxInt32-15, math.MaxInt32)
	}
	return i
}

// TestDoSecond: instructions, one by one, do what the words tell, whatever they name, with places as few or as many as may be (P11.3).
func TestDoSecond(t *testing.T) {
	next := sample.Numbers(19)
	changed := 0
	for range 20000 {
		places := distinct(next(45))
		var l []api.Mach
		for range 1 + next(12) {
			l = append(l, anyIns(next))
		}
		got, want := moves.Do(l, places), doneByWords(l, places)
		if !slices.Equal(got, want) {
			t.Fatalf("%v of %d: %v, not %v", l, len(places), got, want)
		}
		if !slices.Equal(got, places) {
			changed++
		}
	}
	if changed < 10000 {
		t.Errorf("only %d changed anything", changed)
	}
}

// TestAfterSecond: all at once, each has what its last From had, whatever is named (P11.2).
func TestAfterSecond(t *testing.T) {
	next := sample.Numbers(23)
	numbers := slices.Concat(far, row(0, 1, 2, 3, 15, 16, 17, 18, 19, 20))
	changed := 0
	for range 20000 {
		places := distinct(next(22))
		var l []api.Move
		last := map[int]int{}
		for range next(12) {
			m := api.Move{To: sample.One(next, numbers...), From: sample.One(next, numbers...)}
			l = append(l, m)
			last[m.To] = m.From
		}
		want := slices.Clone(places)
		for to := range maps.Keys(last) {
			if to < 0 || to >= len(places) {
				continue
			}
			want[to] = 0
			if from := last[to]; from >= 0 && from < len(places) {
				want[to] = places[from]
			}
		}
		if got := moves.After(l, places); !slices.Equal(got, want) {
			t.Fatalf("%v of %d: %v, not %v", l, len(places), got, want)
		}
		if !slices.Equal(want, places) {
			changed++
		}
	}
	if changed < 10000 {
		t.Errorf("only %d changed anything", changed)
	}
}
