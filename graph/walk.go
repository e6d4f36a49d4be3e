package graph

import "slices"

// walk goes along each call once, and finds the groups on its way: of a group, the function that is entered first is left
// last, and what has been entered since and is open then is the rest of it.
type walk struct {
	calls   [][]int
	gone    []int // of each function, how many of its calls have been gone along
	entered []int // of each function, as which one it was entered, from 1 on; 0: it wasn't
	back    []int // of each function, the least of entered that is known of those of its group
	path    []int // the walk's own stack: those that have been entered, and not left, each called by the one below
	open    []int // those that have been entered, and are in no group yet, in that order
	count   int   // how many have been entered
	least   []int // of each function the least number in its group; -1: it is in none yet
}

// leastOfGroups is of each function the least number in its group, by which groups are told from one another.
func leastOfGroups(calls [][]int) []int {
	n := len(calls)
	w := walk{calls: calls, gone: make([]int, n), entered: make([]int, n), back: make([]int, n), least: slices.Repeat([]int{-1}, n)}
	for i := range calls {
		if w.entered[i] == 0 {
			w.from(i)
		}
	}
	return w.least
}

// from walks from a function that hasn't been entered to all that it reaches and that haven't been.
func (w *walk) from(i int) {
enter:
	w.enter(i)
goOn:
	i = w.path[len(w.path)-1]
	if w.gone[i] == len(w.calls[i]) {
		goto leave
	}
	if next := w.calls[i][w.gone[i]]; w.entered[next] == 0 {
		i = next
		goto enter
	}
	w.goAlong(i)
	goto goOn
leave:
	w.leave(i)
	if len(w.path) > 0 {
		goto goOn
	}
}

func (w *walk) enter(i int) {
	w.count++
	w.entered[i], w.back[i] = w.count, w.count
	w.path = append(w.path, i)
	w.open = append(w.open, i)
}

// goAlong takes over what is known of the function that is called next. That has been entered, and if it was by this call,
// left. If it is open, it reaches one on the path below, and so the caller, too: the two are of one group.
func (w *walk) goAlong(i int) {
	next := w.calls[i][w.gone[i]]
	if w.least[next] < 0 {
		w.back[i] = min(w.back[i], w.back[next])
	}
	w.gone[i]++
}

// leave goes back from a function all of whose calls have been gone along, and closes its group, if it was the first of it.
func (w *walk) leave(i int) {
	w.path = w.path[:len(w.path)-1]
	if w.back[i] < w.entered[i] {
		return
	}
	start := len(w.open) - 1
	for w.open[start] != i {
		start--
	}
	group := w.open[start:]
	least := slices.Min(group)
	for _, j := range group {
		w.least[j] = least
	}
	w.open = w.open[:start]
}
