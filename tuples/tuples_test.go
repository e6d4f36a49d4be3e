package tuples

import (
	"math"
	"slices"
	"testing"

	"fathom/api"
)

const (
	n = api.TypeN
	b = api.TypeB
	l = api.TypeL
)

func some(many int, t api.Type) []api.Type { return slices.Repeat([]api.Type{t}, many) }

// listsOf are all lists of so many types.
func listsOf(many int) [][]api.Type {
	all := [][]api.Type{{}}
	for range many {
		var next [][]api.Type
		for _, params := range all {
			for _, kind := range []api.Type{n, b, l} {
				next = append(next, append(slices.Clone(params), kind))
			}
		}
		all = next
	}
	return all
}

// fewTypes are all lists of at most five types, and long ones that have as many tuples as there may be, or few less.
func fewTypes() [][]api.Type {
	var all [][]api.Type
	for many := range 6 {
		all = append(all, listsOf(many)...)
	}
	return append(all, some(6, l), some(12, n), some(12, b), some(11, b), slices.Concat(some(5, l), some(2, n)), slices.Concat(some(10, b), some(1, l)), slices.Concat(some(1, n), some(5, l), some(1, b)))
}

// tooMany have more tuples than there may be, some of them so many that their number wraps round to a small one.
func tooMany() [][]api.Type {
	return [][]api.Type{
		some(7, l), some(13, n), some(13, b), slices.Concat(some(6, l), some(1, b)), slices.Concat(some(1, n), some(6, l)), slices.Concat(some(11, n), some(1, l)),
		some(16, l), some(31, l), some(32, l), some(33, l), some(62, n), some(63, b), some(64, b), some(65, n), some(128, l), some(99999, l),
	}
}

// noTypes are lists of types of which one is none, however many tuples the others have.
func noTypes() [][]api.Type {
	var all [][]api.Type
	for _, kind := range []api.Type{0, 4, -1, -3, math.MinInt, math.MaxInt, 1<<32 + n, 1<<8 + l} {
		all = append(all, []api.Type{kind}, []api.Type{kind, l}, []api.Type{n, kind, b}, []api.Type{l, b, kind})
		all = append(all, append(some(7, l), kind), append(some(99, n), kind), append([]api.Type{kind}, some(99, l)...), append(some(64, b), kind, l))
	}
	return all
}

// tuplesOf are all tuples in the order of their numbers, made from the front, a type at a time, without the package's help.
func tuplesOf(params []api.Type) [][]api.Point {
	all := [][]api.Point{{}}
	for _, kind := range params {
		last := api.Point(1)
		if kind == l {
			last = 3
		}
		var next [][]api.Point
		for _, tuple := range all {
			for p := api.Point(0); p <= last; p++ {
				next = append(next, append(slices.Clone(tuple), p))
			}
		}
		all = next
	}
	return all
}

// P16.1

func TestCount(t *testing.T) {
	for _, params := range fewTypes() {
		if many, e := Count(params); many != len(tuplesOf(params)) || e != api.OK {
			t.Errorf("%v: %d, %v", params, many, e)
		}
	}
	for _, params := range [][]api.Type{nil, {}} {
		if many, e := Count(params); many != 1 || e != api.OK {
			t.Errorf("of no type: %d, %v", many, e)
		}
	}
	for _, params := range tooMany() {
		if many, e := Count(params); many != 0 || e != api.ErrTooBig {
			t.Errorf("%d types: %d, %v", len(params), many, e)
		}
	}
	for _, params := range noTypes() {
		if many, e := Count(params); many != 0 || e != api.ErrShape {
			t.Errorf("%v: %d, %v", params, many, e)
		}
	}
}

// Of all lists of seven types just those are too big that have more than MaxCells tuples.
func TestCountOfSeven(t *testing.T) {
	for _, params := range listsOf(7) {
		want, wrong := 1, api.OK
		for _, kind := range params {
			want *= 2
			if kind == l {
				want *= 2
			}
		}
		if want > api.MaxCells {
			want, wrong = 0, api.ErrTooBig
		}
		if many, e := Count(params); many != want || e != wrong {
			t.Errorf("%v: %d, %v; not %d", params, many, e, want)
		}
	}
}

// P16.2

func TestNumberAndTuple(t *testing.T) {
	for _, params := range fewTypes() {
		for number, tuple := range tuplesOf(params) {
			if got, e := Number(params, tuple); got != number || e != api.OK {
				t.Fatalf("Number of %v at %v: %d, %v; not %d", params, tuple, got, e, number)
			}
			if got, e := Tuple(params, number); !slices.Equal(got, tuple) || e != api.OK {
				t.Fatalf("Tuple %d of %v: %v, %v; not %v", number, params, got, e, tuple)
			}
		}
	}
}

func checkNumberRefused(t *testing.T, params []api.Type, tuple []api.Point, want api.Errno) {
	t.Helper()
	if number, e := Number(params, tuple); number != 0 || e != want {
		t.Errorf("Number of %v at %v: %d, %v; not %v", params, tuple, number, e, want)
	}
}

// wrongPoints are no points of a type.
func wrongPoints(t api.Type) []api.Point {
	none := []api.Point{-1, -2, -4, 4, 5, math.MinInt, math.MaxInt, 1 << 32, 1<<8 + 1}
	if t != l {
		none = append(none, 2, 3)
	}
	return none
}

func TestNumberOfNoTuple(t *testing.T) {
	for _, params := range fewTypes() {
		checkNumberRefused(t, params, make([]api.Point, len(params)+1), api.ErrShape)
		checkNumberRefused(t, params, make([]api.Point, len(params)+64), api.ErrShape)
		if len(params) == 0 {
			continue
		}
		checkNumberRefused(t, params, nil, api.ErrShape)
		checkNumberRefused(t, params, make([]api.Point, len(params)-1), api.ErrShape)
		for i, kind := range params {
			for _, p := range wrongPoints(kind) {
				tuple := make([]api.Point, len(params))
				tuple[i] = p
				checkNumberRefused(t, params, tuple, api.ErrRange)
				// A tuple of a wrong length is told ahead of a point that is none.
				checkNumberRefused(t, params, append(tuple, 0), api.ErrShape)
				checkNumberRefused(t, params, append([]api.Point{p}, tuple...), api.ErrShape)
			}
		}
	}
}

func TestTupleOutOfRange(t *testing.T) {
	for _, params := range fewTypes() {
		many := len(tuplesOf(params))
		for _, number := range []int{-1, -2, -many, many, many + 1, 2 * many, 8192, 1 << 32, math.MinInt, math.MaxInt} {
			if tuple, e := Tuple(params, number); len(tuple) != 0 || e != api.ErrRange {
				t.Errorf("Tuple %d of %v: %v, %v", number, params, tuple, e)
			}
		}
	}
}

// The errors of Count are told ahead of all else.
func TestCountComesFirst(t *testing.T) {
	check := func(params []api.Type, want api.Errno) {
		t.Helper()
		for _, tuple := range [][]api.Point{nil, {0}, {-1}, {9, 9}, make([]api.Point, len(params)), slices.Repeat([]api.Point{1}, len(params)), slices.Repeat([]api.Point{7}, len(params))} {
			checkNumberRefused(t, params, tuple, want)
		}
		for _, number := range []int{0, 1, -1, 4095, 4096, math.MinInt, math.MaxInt} {
			if tuple, e := Tuple(params, number); len(tuple) != 0 || e != want {
				t.Errorf("Tuple %d of %v: %v, %v; not %v", number, params, tuple, e, want)
			}
		}
	}
	for _, params := range tooMany()[:15] {
		check(params, api.ErrTooBig)
	}
	for _, params := range noTypes() {
		check(params, api.ErrShape)
	}
}

// The examples of the document.
func TestExamplesOfNumbers(t *testing.T) {
	three := []api.Type{n, l, b}
	if many, e := Count(three); many != 16 || e != api.OK {
		t.Error(many, e)
	}
	if number, e := Number(three, []api.Point{1, 2, 0}); number != 12 || e != api.OK {
		t.Error(number, e)
	}
	if tuple, e := Tuple(three, 13); !slices.Equal(tuple, []api.Point{1, 2, 1}) || e != api.OK {
		t.Error(tuple, e)
	}
	if tuple, e := Tuple(three, 16); len(tuple) != 0 || e != api.ErrRange {
		t.Error(tuple, e)
	}
	checkNumberRefused(t, []api.Type{n}, []api.Point{2}, api.ErrRange)
	checkNumberRefused(t, []api.Type{n}, nil, api.ErrShape)
}
