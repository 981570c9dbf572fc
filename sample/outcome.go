package sample

import (
	"slices"

	"jacquard/api"
)

// Args is an input of arguments, with steps enough.
func Args(l ...int32) api.Input { return api.Input{Args: l, Steps: 1000} }

// Ended is an outcome without memory and calls.
func Ended(end int, val int32, steps int) api.Outcome {
	return api.Outcome{End: end, Val: val, Steps: steps}
}

// Alike tells whether two outcomes are the same in all, be rows without items nil or empty.
func Alike(a, b api.Outcome) bool {
	same := func(x, y api.Event) bool { return x.Callee == y.Callee && slices.Equal(x.Args, y.Args) }
	return a.End == b.End && a.Val == b.Val && a.Steps == b.Steps && slices.Equal(a.Mem, b.Mem) && slices.EqualFunc(a.Calls, b.Calls, same)
}

// CopiedInput is an input of rows of its own; those without items are nil.
func CopiedInput(in api.Input) api.Input {
	in.Args, in.Mem, in.Answers = Own(in.Args), Own(in.Mem), Own(in.Answers)
	return in
}

// ScribbleInput writes over all that an input has.
func ScribbleInput(in api.Input) {
	clear(in.Args)
	clear(in.Mem)
	clear(in.Answers)
}

// ScribbleOutcome writes over all that an outcome has, and behind it.
func ScribbleOutcome(o api.Outcome) {
	clear(o.Mem)
	_ = append(o.Mem, 99)
	for n := range o.Calls {
		// What is laid behind a row must not come to lie in another one.
		_ = append(o.Calls[n].Args, 99)
	}
	for n := range o.Calls {
		clear(o.Calls[n].Args)
	}
	clear(o.Calls)
}
