package points

import (
	"slices"
	"testing"

	"fathom/api"
)

// P15.2

func TestCons(t *testing.T) {
	for _, r := range []struct{ head, tail, want api.Point }{
		{0, 0, 1}, {0, 1, 1}, {0, 2, 2}, {0, 3, 2},
		{1, 0, 1}, {1, 1, 1}, {1, 2, 2}, {1, 3, 3},
	} {
		if p, e := Cons(r.head, r.tail); p != r.want || e != api.OK {
			t.Errorf("Cons(%d, %d): %d, %v; not %d", r.head, r.tail, p, e, r.want)
		}
	}
}

func TestConsOutOfRange(t *testing.T) {
	heads, noHeads := pointsOf(api.TypeN)
	tails, noTails := pointsOf(api.TypeL)
	refused := func(head, tail api.Point) {
		if p, e := Cons(head, tail); p != 0 || e != api.ErrRange {
			t.Errorf("Cons(%d, %d): %d, %v", head, tail, p, e)
		}
	}
	for _, head := range noHeads {
		for _, tail := range slices.Concat(tails, noTails) {
			refused(head, tail)
		}
	}
	for _, head := range heads {
		for _, tail := range noTails {
			refused(head, tail)
		}
	}
}

// P15.3

func ways() [][]api.Branch {
	return [][]api.Branch{
		nil,
		{{Nil: false, Head: 1, Tail: 1}},
		{{Nil: false, Head: 0, Tail: 3}, {Nil: false, Head: 1, Tail: 2}},
		{{Nil: true, Head: 0, Tail: 0}, {Nil: false, Head: 1, Tail: 3}},
	}
}

func TestCases(t *testing.T) {
	for p, want := range ways() {
		if l, e := Cases(api.Point(p)); !slices.Equal(l, want) || e != api.OK {
			t.Errorf("Cases(%d): %v, %v; not %v", p, l, e, want)
		}
	}
	for _, p := range noPoints() {
		if l, e := Cases(p); len(l) != 0 || e != api.ErrRange {
			t.Errorf("Cases(%d): %v, %v", p, l, e)
		}
	}
}

// Whoever is answered may change what is answered, and append to it.
func TestCasesAreNewMemory(t *testing.T) {
	for p, want := range ways() {
		first, _ := Cases(api.Point(p))
		second, _ := Cases(api.Point(p))
		longer := append(second, api.Branch{Head: 7})
		for i := range first[:cap(first)] {
			first[:cap(first)][i] = api.Branch{Nil: true, Head: 9, Tail: 9}
		}
		third, _ := Cases(api.Point(p))
		if !slices.Equal(second, want) || !slices.Equal(third, want) || !slices.Equal(longer[:len(want)], want) {
			t.Errorf("Cases(%d): %v, %v, %v; not %v", p, second, third, longer, want)
		}
	}
}
