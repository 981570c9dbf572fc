package moves_test

import (
	"slices"

	"jacquard/api"
)

// second lays moves by the words of P11.1, one after the other: each time all that are left are gone over anew. (It is told none that is wrong.)
type second struct {
	left           []api.Move
	scratch, spare int
	out            []api.Mach
}

// byWords is what the words of P11.1 tell of moves with nothing wrong in them.
func byWords(l []api.Move, scratch, spare int) (out []api.Mach, e api.Errno) {
	defer func() {
		if r := recover(); r != nil {
			out, e = nil, r.(api.Errno)
		}
	}()
	s := second{scratch: scratch, spare: spare}
	for _, m := range l {
		if m.To != m.From {
			s.left = append(s.left, m)
		}
	}
	slices.SortFunc(s.left, func(a, b api.Move) int { return a.To - b.To })
	for len(s.left) > 0 {
		if n := slices.IndexFunc(s.left, s.unneeded); n >= 0 {
			s.bring(s.left[n].To, s.left[n].From)
			s.left = slices.Delete(s.left, n, n+1)
		} else {
			s.goRound()
		}
	}
	return s.out, api.OK
}

// unneeded tells whether a move's To is no From.
func (s *second) unneeded(m api.Move) bool {
	return !slices.ContainsFunc(s.left, func(other api.Move) bool { return other.From == m.To })
}

// spareSlot is the place of a spare slot, the first or the second one; it gives up, if there is none.
func (s *second) spareSlot(n int) int {
	if s.spare < 0 {
		panic(api.ErrSlot)
	}
	return 16 + s.spare + n
}

// bring is "to bring" of the chapter's words.
func (s *second) bring(a, b int) {
	register := func(place int) bool { return place <= 15 }
	slot := func(place int) int32 { return int32(place) - 16 }
	var all []api.Mach
	if register(a) && register(b) {
		all = append(all, mov(a, b))
	}
	if register(a) && !register(b) {
		all = append(all, sld(a, slot(b)))
	}
	if !register(a) && register(b) {
		all = append(all, sst(b, slot(a)))
	}
	if !register(a) && !register(b) && s.scratch >= 0 {
		all = append(all, sld(s.scratch, slot(b)), sst(s.scratch, slot(a)))
	}
	if !register(a) && !register(b) && s.scratch < 0 {
		away := slot(s.spareSlot(1))
		all = append(all, sst(0, away), sld(0, slot(b)), sst(0, slot(a)), sld(0, away))
	}
	s.out = append(s.out, all...)
}

// goRound lays the circle of the least To, where all that are left are in circles.
func (s *second) goRound() {
	circle := []int{s.left[0].To}
	for {
		last := circle[len(circle)-1]
		n := slices.IndexFunc(s.left, func(m api.Move) bool { return m.To == last })
		if s.left[n].From == circle[0] {
			break
		}
		circle = append(circle, s.left[n].From)
	}
	s.left = slices.DeleteFunc(s.left, func(m api.Move) bool { return slices.Contains(circle, m.To) })
	registers := slices.Max(circle) <= 15
	if registers && s.scratch < 0 {
		for n := 1; n < len(circle); n++ {
			s.out = append(s.out, swap(circle[n-1], circle[n]))
		}
		return
	}
	t := s.scratch
	if !registers {
		t = s.spareSlot(0)
	}
	all := append([]int{t}, circle...)
	for n := range all {
		s.bring(all[n], all[(n+1)%len(all)])
	}
}

// circlesByWords are the circles of P11.4: from each place the way back to itself is looked for.
func circlesByWords(l []api.Move) [][]int {
	from := map[int]int{}
	for _, m := range l {
		from[m.To] = m.From
	}
	var all [][]int
	for x := range from {
		circle := []int{x}
		at, ok := from[x]
		for ok && at != x && len(circle) <= len(l) {
			circle = append(circle, at)
			at, ok = from[at]
		}
		if ok && at == x && len(circle) > 1 && slices.Min(circle) == x {
			all = append(all, circle)
		}
	}
	slices.SortFunc(all, func(a, b []int) int {
		if a[0] < b[0] {
			return -1
		}
		return 1
	})
	return all
}

// doneByWords is what P11.3 tells: what there is stands in maps of registers and slots.
func doneByWords(l []api.Mach, places []int32) []int32 {
	regs, slots := map[int]int32{}, map[int32]int32{}
	for n, w := range places {
		if n <= 15 {
			regs[n] = w
		} else {
			slots[int32(n-16)] = w
		}
	}
	for _, i := range l {
		switch i.Op {
		case api.MMov:
			set(regs, i.D, regs[i.A])
		case api.MSwap:
			a, b := regs[i.A], regs[i.B]
			set(regs, i.A, b)
			set(regs, i.B, a)
		case api.MLi, api.MLiw:
			set(regs, i.D, i.Imm)
		case api.MSld:
			set(regs, i.D, slots[i.Imm])
		case api.MSst:
			set(slots, i.Imm, regs[i.A])
		}
	}
	var own []int32
	for n := range places {
		if n <= 15 {
			own = append(own, regs[n])
		} else {
			own = append(own, slots[int32(n-16)])
		}
	}
	return own
}

// set lets one that there is have a word.
func set[K comparable](all map[K]int32, k K, w int32) {
	if _, ok := all[k]; ok {
		all[k] = w
	}
}
