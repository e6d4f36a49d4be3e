package prim

import (
	"math/rand"
	"slices"
	"testing"

	"fathom/api"
)

// drawn are numbers of all sizes, the same ones each time, with those of numbers.
func drawn(seed int64, n int) []complex128 {
	source := rand.New(rand.NewSource(seed))
	part := func() float64 {
		most := 1 << source.Intn(25)
		return float64(source.Intn(2*most+1) - most)
	}
	all := numbers()
	for range n {
		all = append(all, complex(part(), part()))
	}
	return all
}

type outcome struct {
	v   api.Value
	why api.Errno
}

// of hands an error on, so that laws can be written with one call in another.
func of(op api.Op, args ...outcome) outcome {
	var values []api.Value
	for _, a := range args {
		if a.why != api.OK {
			return outcome{why: a.why}
		}
		values = append(values, a.v)
	}
	v, e := Apply(op, values)
	return outcome{v, e}
}

func same(a, b outcome) bool { return identical(a.v, b.v) && a.why == b.why }

func given(z complex128) outcome { return outcome{v: num(z)} }

// P10.3

func TestNoOrderMatters(t *testing.T) {
	all := drawn(101, 300)
	for _, x := range all {
		for _, y := range all {
			a, b := given(x), given(y)
			for _, op := range []api.Op{api.OpAdd, api.OpMul, api.OpEq} {
				if there, back := of(op, a, b), of(op, b, a); !same(there, back) {
					t.Fatalf("%d of %v and %v: %v, %v", op, x, y, there, back)
				}
			}
		}
	}
}

func TestJustOneOfThree(t *testing.T) {
	all := drawn(102, 300)
	for _, x := range all {
		for _, y := range all {
			a, b := given(x), given(y)
			count := 0
			for _, is := range []outcome{of(api.OpEq, a, b), of(api.OpLess, a, b), of(api.OpLess, b, a)} {
				if is.why != api.OK {
					t.Fatalf("%v and %v: %d", x, y, is.why)
				}
				if is.v.Bool {
					count++
				}
			}
			if count != 1 {
				t.Fatalf("%v and %v: %d of the three", x, y, count)
			}
		}
	}
}

func TestPartsMakeTheNumber(t *testing.T) {
	for _, x := range drawn(103, 20000) {
		z := given(x)
		if back := of(api.OpAdd, of(api.OpRe, z), of(api.OpMul, of(api.OpIm, z), given(1i))); !same(back, z) {
			t.Fatalf("of the parts of %v: %v", x, back)
		}
	}
}

// Where one of the two is above the greatest number, so is the other: a square is at least 0.
func TestProductWithItsConj(t *testing.T) {
	inside := 0
	for _, x := range drawn(104, 20000) {
		z := given(x)
		re, im := of(api.OpRe, z), of(api.OpIm, z)
		product := of(api.OpRe, of(api.OpMul, z, of(api.OpConj, z)))
		squares := of(api.OpAdd, of(api.OpMul, re, re), of(api.OpMul, im, im))
		if !same(product, squares) {
			t.Fatalf("%v with its conj: %v, not %v", x, product, squares)
		}
		if product.why == api.OK {
			inside++
		}
	}
	if inside < 1000 {
		t.Errorf("only %d products were numbers", inside)
	}
}

// P10.4

// stayed compares all of a value, and the spare room of its list.
func stayed(v, before api.Value) bool {
	return v.Type == before.Type && sameBits(v.Num, before.Num) && v.Bool == before.Bool && len(v.List) == len(before.List) &&
		slices.EqualFunc(v.List[:cap(v.List)], before.List[:cap(before.List)], sameBits)
}

// withRoom is a value whose list has three numbers of spare room, in new memory.
func withRoom(v api.Value) api.Value {
	room := make([]complex128, len(v.List)+3)
	copy(room, append(slices.Clone(v.List), 0.5, -7, 3i))
	v.List = room[:len(v.List)]
	return v
}

// What is handed in stays, the spare room of the list of arguments and of their lists, too.
func TestWhatIsHandedInStays(t *testing.T) {
	for op := api.Op(-1); op < 25; op++ {
		for _, args := range [][]api.Value{
			nil, {num(6), num(2)}, {num(7), num(2)}, {num(api.Most), num(api.Most)}, {num(2 - 3i)}, {yes(true)},
			{num(0.5), num(1)}, {list(1, 2)}, {num(1), list(3)},
		} {
			var given, before []api.Value
			for _, v := range append(slices.Clone(args), num(5), yes(true), api.Value{Type: 9, Num: 0.5, Bool: true}) {
				given, before = append(given, withRoom(v)), append(before, withRoom(v))
			}
			Apply(op, given[:len(args)])
			if !slices.EqualFunc(given, before, stayed) {
				t.Errorf("Apply(%d, %v) left %v, not %v", op, args, given, before)
			}
		}
	}
}

// An answer has no list, not even one with spare room that is an argument's.
func TestAnswersShareNothing(t *testing.T) {
	for _, op := range operations() {
		args := fitting(op)
		for i := range args {
			args[i].List = make([]complex128, 0, 3)
		}
		v, e := Apply(op, args)
		if e != api.OK || v.List != nil {
			t.Errorf("Apply(%d, %v): a list with room for %d, %d", op, args, cap(v.List), e)
		}
		clear(args)
		again, _ := Apply(op, fitting(op))
		if !identical(v, again) {
			t.Errorf("Apply(%d): %v, later %v", op, v, again)
		}
	}
}
