// Package sample is what the tests of several layers lean on: functions of all kinds, and inputs, the same each time. The program itself does not call it.
package sample

import (
	"math"

	"jacquard/api"
)

// Numbers tell numbers that are all over the place, the same each time.
func Numbers(seed uint32) func(below int) int {
	return func(below int) int {
		seed = seed*1664525 + 1013904223
		return int(seed>>8) % below
	}
}

// Word is one that is worth a look: a small one, one at the ends, or any.
func Word(next func(int) int) int32 {
	odd := []int32{math.MinInt32, math.MinInt32 + 1, -65536, -33, -1, 31, 32, 65535, math.MaxInt32 - 1, math.MaxInt32}
	switch next(4) {
	case 0:
		return odd[next(len(odd))]
	case 1:
		return int32(uint32(next(1<<16))<<16 | uint32(next(1<<16)))
	}
	return int32(next(12) - 3)
}

// Words are a row of them, of any length below one.
func Words(next func(int) int, below int) []int32 {
	var l []int32
	for range next(below) {
		l = append(l, Word(next))
	}
	return l
}

// Own is a row of its own; nil, if it has no items.
func Own[T any](row []T) []T {
	return append([]T(nil), row...)
}

// Copied is a function of rows of its own; those without items are nil.
func Copied(f api.Func) api.Func {
	f.Blocks = Own(f.Blocks)
	for b := range f.Blocks {
		x := &f.Blocks[b]
		x.Phis, x.Ins = Own(x.Phis), Own(x.Ins)
		for n := range x.Phis {
			x.Phis[n].In = Own(x.Phis[n].In)
		}
		for n := range x.Ins {
			x.Ins[n].Args = Own(x.Ins[n].Args)
		}
		x.Term.Args, x.Term.To = Own(x.Term.Args), Own(x.Term.To)
	}
	return f
}

// Spoilt is a function with something changed in a block: mostly it may not be any more.
func Spoilt(next func(int) int, f api.Func) api.Func {
	f = Copied(f)
	b := &f.Blocks[next(len(f.Blocks))]
	switch next(4) {
	case 0:
		b.Term.Kind = next(7)
	case 1:
		b.Term.Args = append(b.Term.Args, next(20))
	case 2:
		b.Ins = append(b.Ins, api.Ins{Op: next(20), Dst: next(20), Args: []int{next(20)}})
	default:
		for n := range b.Ins {
			b.Ins[n].Op = next(20)
		}
	}
	return f
}

// CopiedCode is machine code of rows of its own; those without items are nil.
func CopiedCode(m api.MFunc) api.MFunc {
	m.Blocks = Own(m.Blocks)
	for b := range m.Blocks {
		x := &m.Blocks[b]
		x.Phis, x.Ins, x.End.To = Own(x.Phis), Own(x.Ins), Own(x.End.To)
		for n := range x.Phis {
			x.Phis[n].In = Own(x.Phis[n].In)
		}
		for n := range x.Ins {
			x.Ins[n].Args = Own(x.Ins[n].Args)
		}
	}
	return m
}

// Scribble writes over all that a function has.
func Scribble(f api.Func) {
	for _, x := range f.Blocks {
		for _, p := range x.Phis {
			clear(p.In)
		}
		for _, i := range x.Ins {
			clear(i.Args)
		}
		clear(x.Term.Args)
		clear(x.Term.To)
		clear(x.Phis)
		clear(x.Ins)
	}
	clear(f.Blocks)
}

// ScribbleCode writes over all that machine code has.
func ScribbleCode(m api.MFunc) {
	for _, x := range m.Blocks {
		for _, p := range x.Phis {
			clear(p.In)
		}
		for _, i := range x.Ins {
			clear(i.Args)
		}
		clear(x.End.To)
		clear(x.Phis)
		clear(x.Ins)
	}
	clear(m.Blocks)
}

// ScribbleRows writes over all rows of answers, and behind them.
func ScribbleRows(answers []any) {
	for _, a := range answers {
		switch l := a.(type) {
		case [][]int:
			for _, row := range l {
				spoil(row, -7)
			}
			clear(l)
		case []int:
			spoil(l, -7)
		case []int32:
			spoil(l, -7)
		case []api.Range:
			spoil(l, api.Range{From: -7})
		case []api.Mach:
			spoil(l, api.Mach{Op: -7})
		}
	}
}

// spoil writes one thing over a row, and behind it.
func spoil[T any](row []T, x T) {
	for n := range row {
		row[n] = x
	}
	_ = append(row, x)
}
