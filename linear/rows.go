package linear

import "slices"

// copied is a row of its own.
func copied[T any](l []T) []T {
	return append([]T(nil), l...)
}

// sorted is a row of its own, in order.
func sorted[T any](l []T, by func(a, b T) int) []T {
	l = copied(l)
	slices.SortFunc(l, by)
	return l
}
