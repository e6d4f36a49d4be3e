package heap

import (
	"math"
	"testing"

	"fathom/api"
)

// cells are cells of a heap that has five nodes and two pairs.
func cells() []api.Cell {
	all := []api.Cell{yes(false), yes(true), none(), cons(0), cons(1)}
	for _, z := range []complex128{
		0, 1, -1, 1i, -1i, 2 - 3i, api.Most, -api.Most, complex(0, api.Most), complex(0, -api.Most), complex(-api.Most, api.Most),
	} {
		all = append(all, num(z))
	}
	for at := range 5 {
		all = append(all, node(at))
	}
	return all
}

// noNumbers are no numbers of layer 1, in the one part, the other, or both.
func noNumbers() []complex128 {
	var all []complex128
	for _, x := range []float64{
		math.NaN(), math.Inf(1), math.Inf(-1), 0.5, -0.5, 1e-300, api.Most + 1, -api.Most - 1, api.Most - 0.5, 1 << 32, math.MaxFloat64,
		math.Copysign(0, -1),
	} {
		all = append(all, complex(x, 0), complex(0, x), complex(x, x), complex(x, 1), complex(1, x))
	}
	return all
}

// noCells are no cells of a heap that has five nodes and two pairs.
func noCells() []api.Cell {
	var all []api.Cell
	for _, kind := range []api.CellKind{0, 6, -1, 7, 1 << 8, math.MaxInt, math.MinInt, 1<<32 + api.CellNum, 1<<32 + api.CellNil} {
		all = append(all, api.Cell{Kind: kind}, api.Cell{Kind: kind, Num: 1}, api.Cell{Kind: kind, Bool: true}, api.Cell{Kind: kind, At: 1})
	}
	for _, at := range nowhere(2) {
		all = append(all, cons(at))
	}
	all = append(all, cons(3), cons(4))
	for _, at := range nowhere(5) {
		all = append(all, node(at))
	}
	for _, z := range noNumbers() {
		all = append(all, num(z))
	}
	return append(all, overfull()...)
}

// overfull are cells but for one field that their kind doesn't name, and that isn't zero.
func overfull() []api.Cell {
	var all []api.Cell
	for _, c := range []api.Cell{num(0), num(3), num(2 - 3i), yes(false), yes(true), none(), cons(0), cons(1), node(0), node(1), node(4)} {
		if c.Kind != api.CellBool {
			bad := c
			bad.Bool = true
			all = append(all, bad)
		}
		if c.Kind != api.CellCons && c.Kind != api.CellNode {
			for _, at := range []int{1, -1, 4, math.MaxInt, math.MinInt} {
				bad := c
				bad.At = at
				all = append(all, bad)
			}
		}
		if c.Kind != api.CellNum {
			for _, z := range append(noNumbers(), 1, 1i, -1, api.Most) {
				bad := c
				bad.Num = z
				all = append(all, bad)
			}
		}
	}
	return all
}

// Which numbers are cells hangs on what was made before, and on nothing else.
func TestCellsAsTheHeapGrows(t *testing.T) {
	h := New()
	pairs := 0
	for count := range 6 {
		for at := range 8 {
			why, want := api.ErrShape, 0
			if at < count {
				why, want = api.OK, pairs
				pairs++
			}
			expectPair(t, h, node(at), none(), want, why)
		}
		expectPoison(t, h, count)
	}
}

// A node of any state is a cell, and so is one that is being found.
func TestNodesOfEachState(t *testing.T) {
	h := mixed(t)
	for at := range 5 {
		expectPair(t, h, node(at), node(at), 2+at, api.OK)
	}
	expectUpdate(t, h, 1, cons(3), api.OK)
	expectLook(t, h, 1, done(cons(3)), api.OK)
	expectParts(t, h, 3, node(1), node(1), api.OK)
}
