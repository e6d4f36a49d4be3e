package graph

import (
	"container/heap"
	"sort"
)

// ready is the groups that lean on none that is left; the one with the least number comes out first.
type ready struct{ sort.IntSlice }

func (r *ready) Push(x any) { r.IntSlice = append(r.IntSlice, x.(int)) }

func (r *ready) Pop() any {
	last := len(r.IntSlice) - 1
	x := r.IntSlice[last]
	r.IntSlice = r.IntSlice[:last]
	return x
}

// leanings is the groups and how they lean on one another, each group at the least number in it; what stands at other
// numbers is empty. Each call counts for itself, so that it needn't be known whether a group leans on one by several.
type leanings struct {
	members [][]int
	leaning [][]int // the groups that lean on it, once for each call
	waits   []int   // how many calls it has of groups that are left
}

// leaningsOf takes of each function the least number in its group.
func leaningsOf(calls [][]int, least []int) leanings {
	n := len(calls)
	l := leanings{members: make([][]int, n), leaning: make([][]int, n), waits: make([]int, n)}
	for i, called := range calls {
		own := least[i]
		l.members[own] = append(l.members[own], i)
		for _, j := range called {
			if other := least[j]; other != own {
				l.leaning[other] = append(l.leaning[other], own)
				l.waits[own]++
			}
		}
	}
	return l
}

// inOrder is the groups in the order in which they come.
func (l leanings) inOrder() [][]int {
	next := &ready{}
	for i, group := range l.members {
		if len(group) > 0 && l.waits[i] == 0 {
			heap.Push(next, i)
		}
	}
	var groups [][]int
	for next.Len() > 0 {
		came := heap.Pop(next).(int)
		groups = append(groups, l.members[came])
		for _, other := range l.leaning[came] {
			if l.waits[other]--; l.waits[other] == 0 {
				heap.Push(next, other)
			}
		}
	}
	return groups
}
