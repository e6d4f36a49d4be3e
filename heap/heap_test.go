package heap

import (
	"math"
	"testing"

	"fathom/api"
)

func num(z complex128) api.Cell { return api.Cell{Kind: api.CellNum, Num: z} }

func yes(is bool) api.Cell { return api.Cell{Kind: api.CellBool, Bool: is} }

func none() api.Cell { return api.Cell{Kind: api.CellNil} }

func cons(at int) api.Cell { return api.Cell{Kind: api.CellCons, At: at} }

func node(at int) api.Cell { return api.Cell{Kind: api.CellNode, At: at} }

func delayed(tag int) api.Node { return api.Node{State: api.Delayed, Tag: tag} }

func black() api.Node { return api.Node{State: api.Black} }

func done(c api.Cell) api.Node { return api.Node{State: api.Done, Cell: c} }

func poison() api.Node { return api.Node{State: api.Poison} }

func sameBits(a, b complex128) bool {
	return math.Float64bits(real(a)) == math.Float64bits(real(b)) && math.Float64bits(imag(a)) == math.Float64bits(imag(b))
}

// sameCell compares all fields, also those that the kind doesn't name, and tells -0 from +0.
func sameCell(a, b api.Cell) bool {
	return a.Kind == b.Kind && sameBits(a.Num, b.Num) && a.Bool == b.Bool && a.At == b.At
}

func sameNode(a, b api.Node) bool {
	return a.State == b.State && a.Tag == b.Tag && sameCell(a.Cell, b.Cell)
}

func expectDelay(t *testing.T, h *Heap, tag, want int) {
	t.Helper()
	if at, e := h.Delay(tag); at != want || e != api.OK {
		t.Errorf("Delay(%d): %d, %d; not %d", tag, at, e, want)
	}
}

func expectPoison(t *testing.T, h *Heap, want int) {
	t.Helper()
	if at, e := h.Poison(); at != want || e != api.OK {
		t.Errorf("Poison(): %d, %d; not %d", at, e, want)
	}
}

func expectPair(t *testing.T, h *Heap, head, tail api.Cell, want int, why api.Errno) {
	t.Helper()
	if at, e := h.Pair(head, tail); at != want || e != why {
		t.Errorf("Pair(%v, %v): %d, %d; not %d, %d", head, tail, at, e, want, why)
	}
}

func expectLook(t *testing.T, h *Heap, at int, want api.Node, why api.Errno) {
	t.Helper()
	if n, e := h.Look(at); !sameNode(n, want) || e != why {
		t.Errorf("Look(%d): %v, %d; not %v, %d", at, n, e, want, why)
	}
}

func expectParts(t *testing.T, h *Heap, at int, head, tail api.Cell, why api.Errno) {
	t.Helper()
	if x, y, e := h.Parts(at); !sameCell(x, head) || !sameCell(y, tail) || e != why {
		t.Errorf("Parts(%d): %v, %v, %d; not %v, %v, %d", at, x, y, e, head, tail, why)
	}
}

func expectEnter(t *testing.T, h *Heap, at int, want api.Node, why api.Errno) {
	t.Helper()
	if n, e := h.Enter(at); !sameNode(n, want) || e != why {
		t.Errorf("Enter(%d): %v, %d; not %v, %d", at, n, e, want, why)
	}
}

func expectUpdate(t *testing.T, h *Heap, at int, c api.Cell, why api.Errno) {
	t.Helper()
	if e := h.Update(at, c); e != why {
		t.Errorf("Update(%d, %v): %d, not %d", at, c, e, why)
	}
}

func expectCounts(t *testing.T, h *Heap, delays, updates int) {
	t.Helper()
	if a, b := h.Counts(); a != delays || b != updates {
		t.Errorf("Counts(): %d, %d; not %d, %d", a, b, delays, updates)
	}
}

// nowhere are numbers that nothing has in a heap in which count of its kind were made.
func nowhere(count int) []int {
	return []int{-1, count, count + 1, math.MinInt, math.MaxInt, math.MinInt32, math.MaxInt32, 1 << 32, -1 << 32, 1<<32 - 1}
}

// mixed is a heap with the nodes 0 to 4, delayed, black, done, poison and delayed, and the pairs 0 and 1.
func mixed(t *testing.T) *Heap {
	t.Helper()
	h := New()
	expectDelay(t, h, 10, 0)
	expectDelay(t, h, 11, 1)
	expectDelay(t, h, 12, 2)
	expectPoison(t, h, 3)
	expectDelay(t, h, 14, 4)
	expectPair(t, h, num(5), none(), 0, api.OK)
	expectPair(t, h, node(3), cons(0), 1, api.OK)
	expectEnter(t, h, 1, delayed(11), api.OK)
	expectEnter(t, h, 2, delayed(12), api.OK)
	expectUpdate(t, h, 2, cons(1), api.OK)
	return h
}

// expectMixed expects all that mixed has made, and nothing beside it.
func expectMixed(t *testing.T, h *Heap) {
	t.Helper()
	for at, want := range []api.Node{delayed(10), black(), done(cons(1)), poison(), delayed(14)} {
		expectLook(t, h, at, want, api.OK)
	}
	expectLook(t, h, 5, api.Node{}, api.ErrRange)
	expectParts(t, h, 0, num(5), none(), api.OK)
	expectParts(t, h, 1, node(3), cons(0), api.OK)
	expectParts(t, h, 2, api.Cell{}, api.Cell{}, api.ErrRange)
	expectCounts(t, h, 4, 1)
}

// The chapter's examples, call by call.
func TestExamples(t *testing.T) {
	h := New()
	expectDelay(t, h, 7, 0)
	expectLook(t, h, 0, delayed(7), api.OK)
	expectEnter(t, h, 0, delayed(7), api.OK)
	expectLook(t, h, 0, black(), api.OK)
	expectEnter(t, h, 0, api.Node{}, api.TrapLoop)
	expectPair(t, h, num(1), node(0), 0, api.OK)
	expectPair(t, h, num(1), node(1), 0, api.ErrShape)
	expectUpdate(t, h, 0, cons(0), api.OK)
	expectEnter(t, h, 0, done(cons(0)), api.OK)
	expectUpdate(t, h, 0, none(), api.ErrShape)
	expectPoison(t, h, 1)
	expectEnter(t, h, 1, api.Node{}, api.TrapBottom)
	expectUpdate(t, h, 1, none(), api.ErrShape)
	expectParts(t, h, 0, num(1), node(0), api.OK)
	expectParts(t, h, 1, api.Cell{}, api.Cell{}, api.ErrRange)
	expectLook(t, h, 2, api.Node{}, api.ErrRange)
	expectLook(t, h, -1, api.Node{}, api.ErrRange)
	expectDelay(t, h, 8, 2)
	expectEnter(t, h, 2, delayed(8), api.OK)
	expectUpdate(t, h, 2, node(0), api.ErrShape)
	expectUpdate(t, h, 2, cons(1), api.ErrShape)
	expectCounts(t, h, 2, 1)
}

// P13.1

func TestNewHasNothing(t *testing.T) {
	h := New()
	if h == nil {
		t.Fatal("New is nil")
	}
	for _, at := range append(nowhere(0), 0) {
		expectLook(t, h, at, api.Node{}, api.ErrRange)
		expectParts(t, h, at, api.Cell{}, api.Cell{}, api.ErrRange)
		expectEnter(t, h, at, api.Node{}, api.ErrRange)
		expectUpdate(t, h, at, none(), api.ErrRange)
	}
	expectCounts(t, h, 0, 0)
}

func TestEachNewIsAnother(t *testing.T) {
	used := mixed(t)
	h := New()
	if h == used || h == New() {
		t.Error("New gave the same heap twice")
	}
	expectLook(t, h, 0, api.Node{}, api.ErrRange)
	expectParts(t, h, 0, api.Cell{}, api.Cell{}, api.ErrRange)
	expectCounts(t, h, 0, 0)
	expectDelay(t, h, 1, 0)
	expectPair(t, h, none(), none(), 0, api.OK)
	expectMixed(t, used)
}

// That the heap is nil is told ahead of what is wrong with the arguments.
func TestNilHeap(t *testing.T) {
	var h *Heap
	for _, i := range []int{0, 1, -1, math.MaxInt, math.MinInt} {
		if at, e := h.Delay(i); at != 0 || e != api.ErrNil {
			t.Errorf("Delay(%d): %d, %d", i, at, e)
		}
		if at, e := h.Poison(); at != 0 || e != api.ErrNil {
			t.Errorf("Poison(): %d, %d", at, e)
		}
		expectLook(t, h, i, api.Node{}, api.ErrNil)
		expectParts(t, h, i, api.Cell{}, api.Cell{}, api.ErrNil)
		expectEnter(t, h, i, api.Node{}, api.ErrNil)
		for _, c := range []api.Cell{none(), num(1), {}, cons(i), node(i)} {
			expectPair(t, h, c, c, 0, api.ErrNil)
			expectUpdate(t, h, i, c, api.ErrNil)
		}
		expectCounts(t, h, 0, 0)
	}
}

// P13.2

func TestDelay(t *testing.T) {
	h := New()
	tags := []int{7, 0, -1, 7, math.MaxInt, math.MinInt, 1 << 32, 1}
	for i, tag := range tags {
		expectDelay(t, h, tag, i)
	}
	for i, tag := range tags {
		expectLook(t, h, i, delayed(tag), api.OK)
	}
}

func TestPoison(t *testing.T) {
	h := New()
	for i := range 5 {
		expectPoison(t, h, i)
		expectLook(t, h, i, poison(), api.OK)
	}
}

// Nodes are numbered as they were made, whoever made them; pairs have numbers of their own.
func TestNumbers(t *testing.T) {
	h := New()
	for i := range 50 {
		expectDelay(t, h, i, 2*i)
		expectPair(t, h, num(complex(float64(i), 0)), node(2*i), 2*i, api.OK)
		expectPoison(t, h, 2*i+1)
		expectPair(t, h, node(2*i+1), cons(2*i), 2*i+1, api.OK)
	}
	for i := range 50 {
		expectLook(t, h, 2*i, delayed(i), api.OK)
		expectLook(t, h, 2*i+1, poison(), api.OK)
		expectParts(t, h, 2*i, num(complex(float64(i), 0)), node(2*i), api.OK)
		expectParts(t, h, 2*i+1, node(2*i+1), cons(2*i), api.OK)
	}
}

// A pair takes any two cells, of whatever kind; a list with a bool for its tail, too.
func TestPairOfCells(t *testing.T) {
	h := mixed(t)
	at := 2
	for _, head := range cells() {
		for _, tail := range cells() {
			expectPair(t, h, head, tail, at, api.OK)
			expectParts(t, h, at, head, tail, api.OK)
			at++
		}
	}
	for _, head := range cells() {
		expectPair(t, h, head, cons(at-1), at, api.OK)
		at++
	}
}

func TestPairOfNoCells(t *testing.T) {
	h := mixed(t)
	for _, bad := range noCells() {
		expectPair(t, h, bad, none(), 0, api.ErrShape)
		expectPair(t, h, none(), bad, 0, api.ErrShape)
		expectPair(t, h, bad, bad, 0, api.ErrShape)
		expectPair(t, h, node(1), bad, 0, api.ErrShape)
	}
	expectMixed(t, h)
	expectPair(t, h, none(), none(), 2, api.OK)
}

// The pair that is being made is no pair of the heap yet.
func TestPairOfItself(t *testing.T) {
	h := New()
	for i := range 3 {
		expectPair(t, h, num(1), cons(i), 0, api.ErrShape)
		expectPair(t, h, cons(i), none(), 0, api.ErrShape)
		expectPair(t, h, num(1), none(), i, api.OK)
		expectParts(t, h, i, num(1), none(), api.OK)
	}
}

// P13.3

func TestLookAndPartsOfNothing(t *testing.T) {
	h := mixed(t)
	for _, at := range nowhere(5) {
		expectLook(t, h, at, api.Node{}, api.ErrRange)
	}
	for _, at := range append(nowhere(2), 3, 4) {
		expectParts(t, h, at, api.Cell{}, api.Cell{}, api.ErrRange)
	}
	expectMixed(t, h)
}

// Nodes are no pairs, nor pairs nodes.
func TestOneKindAlone(t *testing.T) {
	h := New()
	expectDelay(t, h, 1, 0)
	expectParts(t, h, 0, api.Cell{}, api.Cell{}, api.ErrRange)
	h = New()
	expectPair(t, h, none(), none(), 0, api.OK)
	expectLook(t, h, 0, api.Node{}, api.ErrRange)
	expectEnter(t, h, 0, api.Node{}, api.ErrRange)
	expectUpdate(t, h, 0, none(), api.ErrRange)
}

func TestLookingChangesNothing(t *testing.T) {
	h := mixed(t)
	for range 3 {
		expectMixed(t, h)
	}
	n, _ := h.Look(0)
	n.State, n.Tag = api.Black, 99
	x, y, _ := h.Parts(0)
	x.Num, y.Kind = 99, api.CellNode
	expectMixed(t, h)
	expectEnter(t, h, 0, delayed(10), api.OK)
}

// P13.4

func TestEnter(t *testing.T) {
	h := mixed(t)
	for _, at := range nowhere(5) {
		expectEnter(t, h, at, api.Node{}, api.ErrRange)
	}
	for range 3 {
		expectEnter(t, h, 1, api.Node{}, api.TrapLoop)
		expectEnter(t, h, 2, done(cons(1)), api.OK)
		expectEnter(t, h, 3, api.Node{}, api.TrapBottom)
		expectMixed(t, h)
	}
	expectEnter(t, h, 0, delayed(10), api.OK)
	expectLook(t, h, 0, black(), api.OK)
	expectLook(t, h, 4, delayed(14), api.OK)
	expectEnter(t, h, 0, api.Node{}, api.TrapLoop)
	expectEnter(t, h, 4, delayed(14), api.OK)
	expectEnter(t, h, 4, api.Node{}, api.TrapLoop)
	expectCounts(t, h, 4, 1)
}

// P13.5

func TestUpdateOfNoNode(t *testing.T) {
	h := mixed(t)
	for _, at := range nowhere(5) {
		for _, c := range append(noCells(), cells()...) {
			expectUpdate(t, h, at, c, api.ErrRange)
		}
	}
	expectMixed(t, h)
}

func TestUpdateOfWhatIsNotBlack(t *testing.T) {
	h := mixed(t)
	for _, at := range []int{0, 2, 3, 4} {
		for _, c := range append(noCells(), cells()...) {
			expectUpdate(t, h, at, c, api.ErrShape)
		}
	}
	expectMixed(t, h)
}

func TestUpdateWithNoEnd(t *testing.T) {
	h := mixed(t)
	for at := range 5 {
		expectUpdate(t, h, 1, node(at), api.ErrShape)
	}
	for _, c := range noCells() {
		expectUpdate(t, h, 1, c, api.ErrShape)
	}
	expectMixed(t, h)
	expectUpdate(t, h, 1, none(), api.OK)
	expectLook(t, h, 1, done(none()), api.OK)
}

func TestUpdateWithEnds(t *testing.T) {
	count := 0
	for _, c := range cells() {
		if c.Kind == api.CellNode {
			continue
		}
		count++
		h := mixed(t)
		expectUpdate(t, h, 1, c, api.OK)
		expectLook(t, h, 1, done(c), api.OK)
		expectEnter(t, h, 1, done(c), api.OK)
		expectUpdate(t, h, 1, c, api.ErrShape)
		expectLook(t, h, 0, delayed(10), api.OK)
		expectLook(t, h, 2, done(cons(1)), api.OK)
		expectCounts(t, h, 4, 2)
	}
	if count < 10 {
		t.Errorf("only %d ends", count)
	}
}

// Nodes that are black at one time may be done in any order.
func TestUpdateInAnyOrder(t *testing.T) {
	h := New()
	for i := range 4 {
		expectDelay(t, h, i, i)
		expectEnter(t, h, i, delayed(i), api.OK)
	}
	for k, at := range []int{2, 0, 3, 1} {
		expectUpdate(t, h, at, num(complex(0, float64(at))), api.OK)
		expectCounts(t, h, 4, k+1)
	}
	for i := range 4 {
		expectEnter(t, h, i, done(num(complex(0, float64(i)))), api.OK)
	}
}

// P13.6

func TestCounts(t *testing.T) {
	h := New()
	expectPoison(t, h, 0)
	expectPair(t, h, node(0), node(0), 0, api.OK)
	expectCounts(t, h, 0, 0)
	for i := 1; i <= 20; i++ {
		expectDelay(t, h, 0, i)
		expectCounts(t, h, i, i-1)
		expectUpdate(t, h, i, none(), api.ErrShape)
		expectEnter(t, h, i, delayed(0), api.OK)
		expectUpdate(t, h, i, node(0), api.ErrShape)
		expectCounts(t, h, i, i-1)
		expectUpdate(t, h, i, none(), api.OK)
		expectUpdate(t, h, i, none(), api.ErrShape)
		expectCounts(t, h, i, i)
	}
}
