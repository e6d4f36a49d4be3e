package points

import (
	"testing"

	"fathom/api"
)

// P15.6

func cons(t *testing.T, head, tail api.Point) api.Point {
	t.Helper()
	p, e := Cons(head, tail)
	if e != api.OK {
		t.Fatalf("Cons(%d, %d): %v", head, tail, e)
	}
	return p
}

func cases(t *testing.T, p api.Point) []api.Branch {
	t.Helper()
	l, e := Cases(p)
	if e != api.OK {
		t.Fatalf("Cases(%d): %v", p, e)
	}
	return l
}

// everyCons calls with all heads and tails.
func everyCons(try func(head, tail api.Point)) {
	for head := api.Point(0); head <= 1; head++ {
		for tail := api.Point(0); tail <= 3; tail++ {
			try(head, tail)
		}
	}
}

// covered: does one of the ways go where that one goes, with points that are not lesser?
func covered(one api.Branch, ways []api.Branch) bool {
	for _, w := range ways {
		if w.Nil == one.Nil && w.Head >= one.Head && w.Tail >= one.Tail {
			return true
		}
	}
	return false
}

func TestConsRises(t *testing.T) {
	everyCons(func(head, tail api.Point) {
		lesser := cons(t, head, tail)
		everyCons(func(h, l api.Point) {
			if h >= head && l >= tail && cons(t, h, l) < lesser {
				t.Errorf("Cons(%d, %d) is %d, but Cons(%d, %d) %d", head, tail, lesser, h, l, cons(t, h, l))
			}
		})
	})
}

func TestCasesRise(t *testing.T) {
	for p := api.Point(0); p <= 3; p++ {
		for _, way := range cases(t, p) {
			for q := p; q <= 3; q++ {
				if !covered(way, cases(t, q)) {
					t.Errorf("%v of %d: no way of %d", way, p, q)
				}
			}
		}
	}
}

func TestCasesOfCons(t *testing.T) {
	everyCons(func(head, tail api.Point) {
		p := cons(t, head, tail)
		if !covered(api.Branch{Head: head, Tail: tail}, cases(t, p)) {
			t.Errorf("Cons(%d, %d) is %d: none of %v", head, tail, p, cases(t, p))
		}
	})
}

// Each way of a case has points of its head and tail, and a way to nil has none beside it.
func TestWaysHavePoints(t *testing.T) {
	for p := api.Point(0); p <= 3; p++ {
		for _, way := range cases(t, p) {
			if Check(api.TypeN, way.Head) != api.OK || Check(api.TypeL, way.Tail) != api.OK || way.Nil && way != (api.Branch{Nil: true}) {
				t.Errorf("%d: %v", p, way)
			}
		}
	}
}

// A list's own point is what its conses make, from its end on; but of a torn one without elements, which is never there,
// it says less than could be said.
func TestOwnPointOfConses(t *testing.T) {
	for length := range 5 {
		v := numbers(make([]complex128, length)...)
		for at := -2; at <= length; at++ {
			a, p := hole(v, at), api.Point(3)
			switch at {
			case -2:
				a, p = api.Arg{Kind: api.ArgTorn, Value: v}, 0
			case -1, length:
				a = api.Arg{Value: v}
			}
			for i := length - 1; i >= 0; i-- {
				head := api.Point(1)
				if i == at {
					head = 0
				}
				p = cons(t, head, p)
			}
			own, e := Own(api.TypeL, a)
			if at == -2 && length == 0 && p == 0 {
				p = 1
			}
			if own != p || e != api.OK {
				t.Errorf("Own of %v: %d, %v; its conses make %d", a, own, e, p)
			}
		}
	}
}
