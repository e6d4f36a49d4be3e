package graph

import (
	"maps"
	"slices"

	"fathom/api"
)

// numbers is of each function's name its number.
type numbers map[string]int

// callsOf is of each function those that it calls, in a program of which layer 6 has found that each call has a function,
// and each name one definition.
func callsOf(p api.Program) [][]int {
	known := numbers{}
	for i, f := range p.Funcs {
		known[f.Name] = i
	}
	calls := make([][]int, len(p.Funcs))
	for i, f := range p.Funcs {
		called := map[int]struct{}{}
		known.addCalled(called, f.Body)
		calls[i] = slices.Sorted(maps.Keys(called))
	}
	return calls
}

// addCalled adds the functions that are called in an expression. Names that are bound there hide none: functions are no
// variables.
func (n numbers) addCalled(called map[int]struct{}, e api.Expr) {
	if e.Op == api.OpCall {
		called[n[e.Name]] = struct{}{}
	}
	for _, part := range e.Args {
		n.addCalled(called, part)
	}
}

// reachedFrom says of each function whether one of these reaches it.
func reachedFrom(calls [][]int, from ...int) []bool {
	reached := make([]bool, len(calls))
	ahead := slices.Clone(from)
	for len(ahead) > 0 {
		last := len(ahead) - 1
		i := ahead[last]
		ahead = ahead[:last]
		if !reached[i] {
			reached[i] = true
			ahead = append(ahead, calls[i]...)
		}
	}
	return reached
}
