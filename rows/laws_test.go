package rows

import (
	"math/rand"
	"slices"
	"testing"
	"time"

	"fathom/api"
)

func isBelow(t *testing.T, a, b api.Row) bool {
	t.Helper()
	below, e := Below(a, b)
	if e != api.OK {
		t.Fatal(a, b, e)
	}
	return below
}

func joinOf(t *testing.T, a, b api.Row) api.Row {
	t.Helper()
	r, e := Join(a, b)
	if e != api.OK || Check(r) != api.OK {
		t.Fatal(a, b, r, e)
	}
	return r
}

func meetOf(t *testing.T, a, b api.Row) api.Row {
	t.Helper()
	r, e := Meet(a, b)
	if e != api.OK || Check(r) != api.OK {
		t.Fatal(a, b, r, e)
	}
	return r
}

func packAll(lists [][]int) []api.Row {
	var all []api.Row
	for _, cells := range lists {
		all = append(all, pack(cells...))
	}
	return all
}

// P2.5

// Among all rows of two cells: none is above both and not above the Join, none below both and not below the Meet.
func TestJoinIsLeastAndMeetGreatest(t *testing.T) {
	all := packAll(allCells(2))
	for _, a := range all {
		for _, b := range all {
			j, m := joinOf(t, a, b), meetOf(t, a, b)
			for _, c := range all {
				if (isBelow(t, a, c) && isBelow(t, b, c)) != isBelow(t, j, c) {
					t.Error("Join", a, b, c)
				}
				if (isBelow(t, c, a) && isBelow(t, c, b)) != isBelow(t, c, m) {
					t.Error("Meet", a, b, c)
				}
			}
		}
	}
}

func TestOrderDoesNotMatter(t *testing.T) {
	source := rand.New(rand.NewSource(6))
	for _, n := range widths() {
		for range 10 {
			a, b, c := pack(someCells(source, n)...), pack(someCells(source, n)...), pack(someCells(source, n)...)
			if !sameRow(joinOf(t, a, b), joinOf(t, b, a)) || !sameRow(meetOf(t, a, b), meetOf(t, b, a)) {
				t.Error(n, "two")
			}
			if !sameRow(joinOf(t, a, joinOf(t, b, c)), joinOf(t, joinOf(t, a, b), c)) || !sameRow(meetOf(t, a, meetOf(t, b, c)), meetOf(t, meetOf(t, a, b), c)) {
				t.Error(n, "three")
			}
			if !sameRow(joinOf(t, a, a), a) || !sameRow(meetOf(t, a, a), a) {
				t.Error(n, "one")
			}
			if !isBelow(t, a, joinOf(t, a, b)) || !isBelow(t, meetOf(t, a, b), b) || isBelow(t, a, b) != sameRow(joinOf(t, a, b), b) {
				t.Error(n, "below")
			}
		}
	}
}

// best is the least time of many, so that other work on the machine does not count.
func best(do func()) time.Duration {
	least := time.Hour
	for range 200 {
		start := time.Now()
		for range 20 {
			do()
		}
		least = min(least, time.Since(start))
	}
	return least
}

// A loop over the cells, as cheap as it can be, is outdone by each call that goes over words.
func TestStepsForWordsNotCells(t *testing.T) {
	source := rand.New(rand.NewSource(7))
	a, b := pack(someCells(source, api.MaxCells)...), pack(someCells(source, api.MaxCells)...)
	top := pack(slices.Repeat([]int{3}, api.MaxCells)...)
	sum := uint64(0)
	cells := best(func() {
		for i := range api.MaxCells {
			sum += a.Bits[i/32] >> (2 * uint(i%32)) & 3
		}
	})
	calls := []struct {
		name string
		do   func()
	}{
		{"New", func() { New(api.MaxCells) }},
		{"Check", func() { Check(a) }},
		{"Get", func() { Get(a, 4095) }},
		{"Put", func() { Put(a, 4095, 2) }},
		{"Below", func() { Below(a, top) }},
		{"Join", func() { Join(a, b) }},
		{"Meet", func() { Meet(a, b) }},
		{"Count", func() { Count(a, 0) }},
	}
	for _, call := range calls {
		took := best(call.do)
		t.Log(call.name, took, cells)
		if took >= cells {
			t.Error(call.name, took, "for the words, but for the cells only", cells)
		}
	}
	if sum == 0 {
		t.Error("no cells were counted")
	}
}

// P2.6

// roomy is r with spare room behind its words, marked so that a write there is seen.
func roomy(r api.Row) api.Row {
	words := append(slices.Clone(r.Bits), 0xABCD, 0xABCD, 0xABCD)
	return api.Row{N: r.N, Bits: words[:len(r.Bits)]}
}

func whole(r api.Row) []uint64 { return slices.Clone(r.Bits[:cap(r.Bits)]) }

// scribble fills all words of a row, spare room too.
func scribble(r api.Row) {
	all := r.Bits[:cap(r.Bits)]
	for i := range all {
		all[i] = ^all[i]
	}
}

func TestArgumentsStayAndAnswersAreNew(t *testing.T) {
	source := rand.New(rand.NewSource(8))
	for _, n := range widths() {
		a, b := roomy(pack(someCells(source, n)...)), roomy(pack(someCells(source, n)...))
		beforeA, beforeB := whole(a), whole(b)
		held := func(name string) {
			if !slices.Equal(whole(a), beforeA) || !slices.Equal(whole(b), beforeB) {
				t.Fatal(n, name)
			}
		}
		Check(a)
		Get(a, 0)
		Count(a, 0)
		Below(a, b)
		held("looks")
		for name, do := range map[string]func() api.Row{
			"New":       func() api.Row { r, _ := New(n); return r },
			"Put":       func() api.Row { r, _ := Put(a, n-1, 1); return r },
			"Put alike": func() api.Row { v, _ := Get(a, n-1); r, _ := Put(a, n-1, v); return r },
			"Join":      func() api.Row { r, _ := Join(a, b); return r },
			"Join self": func() api.Row { r, _ := Join(a, a); return r },
			"Meet":      func() api.Row { r, _ := Meet(a, b); return r },
			"Meet self": func() api.Row { r, _ := Meet(b, b); return r },
		} {
			first := do()
			held(name)
			copied := slices.Clone(first.Bits)
			second := do()
			scribble(first)
			held(name + ", its answer written over")
			if third := do(); !slices.Equal(second.Bits, copied) || !slices.Equal(third.Bits, copied) {
				t.Error(n, name, "an answer hangs on an earlier one")
			}
		}
	}
}
