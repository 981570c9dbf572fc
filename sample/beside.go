package sample

import (
	"jacquard/api"
	"jacquard/interp"
	"jacquard/mach"
)

// Full is an input with all the memory that there may be: most small addresses are words of it.
func Full(next func(int) int) api.Input {
	in := api.Input{Args: Words(next, 6), Answers: Words(next, 6)}
	for range api.MaxMem {
		in.Mem = append(in.Mem, int32(next(300)))
	}
	return in
}

// Beside runs a function for some steps, and what was selected of it: how the function ended, and whether the machine code did the same. (Of a function that is not at its end by then nothing is held.)
func Beside(f api.Func, m api.MFunc, in api.Input) (end int, same bool) {
	in.Steps = 400
	want := interp.Run(f, in)
	if want.End == api.EndSteps {
		return want.End, true
	}
	// Each step is one or two instructions, or none.
	in.Steps *= 2
	return want.End, interp.Same(mach.Run(m, in), want)
}
