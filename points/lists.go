package points

import "fathom/api"

// Cons: the point of a cons. ErrRange.
func Cons(head, tail api.Point) (api.Point, api.Errno) {
	if Check(api.TypeN, head) != api.OK || Check(api.TypeL, tail) != api.OK {
		return 0, api.ErrRange
	}
	switch {
	case tail <= 1:
		return 1, api.OK
	case head == 0:
		return 2, api.OK
	}
	return tail, api.OK
}

// Cases: the ways of a case. ErrRange.
func Cases(p api.Point) ([]api.Branch, api.Errno) {
	switch p {
	case 0:
		return nil, api.OK
	case 1:
		return []api.Branch{{Head: 1, Tail: 1}}, api.OK
	case 2:
		return []api.Branch{{Head: 0, Tail: 3}, {Head: 1, Tail: 2}}, api.OK
	case 3:
		return []api.Branch{{Nil: true}, {Head: 1, Tail: 3}}, api.OK
	}
	return nil, api.ErrRange
}
