package live

import (
	"iter"
	"math/bits"
)

// perWord is how many numbers a word of a set tells of.
const perWord = 64

// set is a set of numbers of one kind, from 0 on: a bit each, in words up to any that was put in. (So a set of few numbers costs little, whatever their limit.)
type set[N ~int] []uint64

// add puts numbers in.
func (s *set[N]) add(l ...N) {
	for _, n := range l {
		s.widen(int(n)/perWord + 1)
		(*s)[n/perWord] |= 1 << (n % perWord)
	}
}

// widen makes room for as many words.
func (s *set[N]) widen(words int) {
	if more := words - len(*s); more > 0 {
		*s = append(*s, make(set[N], more)...)
	}
}

// remove takes numbers out.
func (s set[N]) remove(l ...N) {
	for _, n := range l {
		if s.has(n) {
			s[n/perWord] &^= 1 << (n % perWord)
		}
	}
}

// has tells whether a number is in it; any number may be asked for.
func (s set[N]) has(n N) bool {
	return n >= 0 && int(n)/perWord < len(s) && s[n/perWord]>>(n%perWord)&1 == 1
}

// join puts in what another set has, but not what a third one has, and tells whether that was more than it had.
func (s *set[N]) join(others, but set[N]) bool {
	s.widen(len(others))
	grew := uint64(0)
	for n, word := range others {
		if n < len(but) {
			word &^= but[n]
		}
		grew |= word &^ (*s)[n]
		(*s)[n] |= word
	}
	return grew != 0
}

// size is how many numbers are in it.
func (s set[N]) size() int {
	count := 0
	for _, word := range s {
		count += bits.OnesCount64(word)
	}
	return count
}

// rising tells the numbers that are in it.
func (s set[N]) rising() iter.Seq[N] {
	return func(yield func(N) bool) {
		for n, word := range s {
			for ; word != 0; word &= word - 1 {
				if !yield(N(n*perWord + bits.TrailingZeros64(word))) {
					return
				}
			}
		}
	}
}
