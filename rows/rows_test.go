package rows

import (
	"math"
	"math/rand"
	"slices"
	"testing"

	"fathom/api"
)

// pack makes a row of these cells by the document's words, without the package's help.
func pack(cells ...int) api.Row {
	r := api.Row{N: len(cells)}
	for i, c := range cells {
		if i%32 == 0 {
			r.Bits = append(r.Bits, 0)
		}
		r.Bits[i/32] += uint64(c) << (2 * (i % 32))
	}
	return r
}

// cellsOf takes a row apart, likewise.
func cellsOf(r api.Row) []int {
	cells := make([]int, r.N)
	for i := range cells {
		cells[i] = int(r.Bits[i/32] >> (2 * (i % 32)) % 4)
	}
	return cells
}

func sameRow(a, b api.Row) bool { return a.N == b.N && slices.Equal(a.Bits, b.Bits) }

func isZero(r api.Row) bool { return r.N == 0 && len(r.Bits) == 0 }

// widths are numbers of cells at, below and above whole words, and the edges.
func widths() []int {
	return []int{0, 1, 2, 3, 30, 31, 32, 33, 34, 63, 64, 65, 96, 127, 128, 129, 1000, 4064, 4065, 4095, 4096}
}

// someCells are n cells of a fixed sequence.
func someCells(source *rand.Rand, n int) []int {
	cells := make([]int, n)
	for i := range cells {
		cells[i] = source.Intn(4)
	}
	return cells
}

// allCells are all rows of n cells.
func allCells(n int) [][]int {
	all := [][]int{{}}
	for range n {
		var next [][]int
		for _, cells := range all {
			for c := range 4 {
				next = append(next, append(slices.Clone(cells), c))
			}
		}
		all = next
	}
	return all
}

// noRows break each part of what a row is.
func noRows() []api.Row {
	all := []api.Row{
		{N: 1}, {N: 32}, {N: 4096}, {N: -1}, {N: -32}, {N: -31, Bits: []uint64{0}},
		{N: 0, Bits: []uint64{0}}, {N: 1, Bits: []uint64{0, 0}}, {N: 32, Bits: []uint64{0, 0}}, {N: 33, Bits: []uint64{0}},
		{N: 1, Bits: []uint64{4}}, {N: 1, Bits: []uint64{8}}, {N: 1, Bits: []uint64{1 << 63}}, {N: 31, Bits: []uint64{1 << 62}}, {N: 31, Bits: []uint64{1 << 63}},
		{N: 33, Bits: []uint64{0, 4}}, {N: 33, Bits: []uint64{0, 1 << 63}}, {N: 63, Bits: []uint64{0, 1 << 62}},
		{N: 4097, Bits: make([]uint64, 129)}, {N: 4097, Bits: make([]uint64, 128)}, {N: 4096, Bits: make([]uint64, 129)}, {N: 4096, Bits: make([]uint64, 127)},
		{N: 4128, Bits: make([]uint64, 129)}, {N: math.MaxInt}, {N: math.MinInt}, {N: math.MaxInt, Bits: make([]uint64, 128)},
	}
	tail := make([]uint64, 128)
	tail[127] = 1 << 62
	return append(all, api.Row{N: 4095, Bits: tail})
}

func outside() []int {
	return []int{-1, -2, -32, math.MinInt}
}

// P2.1

func TestNew(t *testing.T) {
	for n := 0; n <= api.MaxCells; n++ {
		r, e := New(n)
		if e != api.OK || r.N != n || len(r.Bits) != (n+31)/32 || slices.Max(append(r.Bits, 0)) != 0 {
			t.Fatal(n, r, e)
		}
	}
	for _, n := range append(outside(), 4097, 4098, 8192, math.MaxInt) {
		if r, e := New(n); e != api.ErrRange || !isZero(r) {
			t.Error(n, r, e)
		}
	}
}

func TestCheck(t *testing.T) {
	source := rand.New(rand.NewSource(1))
	for n := 0; n <= api.MaxCells; n++ {
		if e := Check(pack(someCells(source, n)...)); e != api.OK {
			t.Fatal(n, e)
		}
	}
	for _, n := range widths() {
		full := make([]int, n)
		for i := range full {
			full[i] = 3
		}
		if e := Check(pack(full...)); e != api.OK {
			t.Error(n, e)
		}
	}
	for _, r := range noRows() {
		if e := Check(r); e != api.ErrShape {
			t.Error(r, e)
		}
	}
}

// Each bit of the last word belongs to a cell or breaks the row.
func TestCheckEachBit(t *testing.T) {
	for n := 1; n <= 96; n++ {
		for bit := range 64 {
			r := pack(make([]int, n)...)
			last := len(r.Bits) - 1
			r.Bits[last] = 1 << bit
			want := api.OK
			if 32*last+bit/2 >= n {
				want = api.ErrShape
			}
			if e := Check(r); e != want {
				t.Error(n, bit, e)
			}
		}
	}
}

func TestNilAndEmptyAreOne(t *testing.T) {
	for _, r := range []api.Row{{}, {Bits: []uint64{}}} {
		j, e := Join(r, api.Row{})
		m, f := Meet(api.Row{Bits: []uint64{}}, r)
		below, g := Below(r, api.Row{})
		if Check(r) != api.OK || e != api.OK || f != api.OK || g != api.OK || !isZero(j) || !isZero(m) || !below {
			t.Error(r, j, m, below)
		}
	}
}

// P2.2

func TestGet(t *testing.T) {
	source := rand.New(rand.NewSource(2))
	for _, n := range widths() {
		cells := someCells(source, n)
		r := pack(cells...)
		for i, c := range cells {
			if v, e := Get(r, i); v != c || e != api.OK {
				t.Fatal(n, i, c, v, e)
			}
		}
		for _, i := range append(outside(), n, n+1, 32*len(r.Bits), 4096, math.MaxInt) {
			if i >= 0 && i < n {
				continue
			}
			if v, e := Get(r, i); v != 0 || e != api.ErrRange {
				t.Error(n, i, v, e)
			}
		}
	}
}

func TestPut(t *testing.T) {
	source := rand.New(rand.NewSource(3))
	for _, n := range widths() {
		cells := someCells(source, n)
		r := pack(cells...)
		for i := 0; i < n; i += 1 + n/200 {
			for v := range 4 {
				want := slices.Clone(cells)
				want[i] = v
				if got, e := Put(r, i, v); e != api.OK || !sameRow(got, pack(want...)) {
					t.Fatal(n, i, v, got, e)
				}
			}
		}
	}
}

func TestPutOutOfRange(t *testing.T) {
	for _, n := range widths() {
		r := pack(make([]int, n)...)
		for _, i := range append(outside(), n, n+1, 32*len(r.Bits), math.MaxInt) {
			if i >= 0 && i < n {
				continue
			}
			if got, e := Put(r, i, 1); e != api.ErrRange || !isZero(got) {
				t.Error(n, i, got, e)
			}
		}
		for _, v := range append(outside(), 4, 5, 8, 256, math.MaxInt) {
			if got, e := Put(r, n-1, v); e != api.ErrRange || !isZero(got) {
				t.Error(n, v, got, e)
			}
		}
	}
}

func TestShapeComesFirst(t *testing.T) {
	for _, r := range noRows() {
		for _, i := range []int{0, -1, 5000} {
			if v, e := Get(r, i); v != 0 || e != api.ErrShape {
				t.Error(r, i, v, e)
			}
			for _, v := range []int{0, 3, -1, 4} {
				if got, e := Put(r, i, v); e != api.ErrShape || !isZero(got) {
					t.Error(r, i, v, got, e)
				}
			}
		}
		for _, v := range []int{0, 3, -1, 4} {
			if n, e := Count(r, v); n != 0 || e != api.ErrShape {
				t.Error(r, v, n, e)
			}
		}
	}
}

// P2.3

// checkPairs holds Below, Join and Meet of two lists of cells against the words of the document, cell by cell.
func checkPairs(t *testing.T, a, b []int) {
	t.Helper()
	below, greater, lesser := true, make([]int, len(a)), make([]int, len(a))
	for i := range a {
		below = below && a[i] <= b[i]
		greater[i], lesser[i] = max(a[i], b[i]), min(a[i], b[i])
	}
	p, q := pack(a...), pack(b...)
	if got, e := Below(p, q); got != below || e != api.OK {
		t.Fatal("Below", a, b, got, e)
	}
	if got, e := Join(p, q); e != api.OK || !sameRow(got, pack(greater...)) {
		t.Fatal("Join", a, b, cellsOf(got), e)
	}
	if got, e := Meet(p, q); e != api.OK || !sameRow(got, pack(lesser...)) {
		t.Fatal("Meet", a, b, cellsOf(got), e)
	}
}

func TestPairsOfFewCells(t *testing.T) {
	for n := range 4 {
		all := allCells(n)
		for _, a := range all {
			for _, b := range all {
				checkPairs(t, a, b)
			}
		}
	}
}

func TestPairsOfManyCells(t *testing.T) {
	source := rand.New(rand.NewSource(4))
	for _, n := range widths() {
		for range 20 {
			a := someCells(source, n)
			checkPairs(t, a, someCells(source, n))
			checkPairs(t, a, a)
		}
	}
}

// One unlike cell, at each place and both ways round, among cells that tell nothing.
func TestPairsOfOneUnlikeCell(t *testing.T) {
	for _, n := range []int{1, 31, 32, 33, 64, 65} {
		for i := range n {
			for x := range 4 {
				for y := range 4 {
					a := make([]int, n)
					for k := range a {
						a[k] = k % 4
					}
					b := slices.Clone(a)
					a[i], b[i] = x, y
					checkPairs(t, a, b)
				}
			}
		}
	}
}

func TestPairsOfWrongShape(t *testing.T) {
	good := []api.Row{pack(), pack(1), pack(0, 3), pack(make([]int, 31)...), pack(make([]int, 32)...), pack(make([]int, 33)...), pack(make([]int, 4096)...)}
	for i, a := range good {
		for k, b := range good {
			if i != k {
				checkRefused(t, a, b)
			}
		}
		for _, b := range noRows() {
			checkRefused(t, a, b)
			checkRefused(t, b, a)
		}
	}
	for _, a := range noRows() {
		checkRefused(t, a, a)
	}
}

func checkRefused(t *testing.T, a, b api.Row) {
	t.Helper()
	if got, e := Below(a, b); got || e != api.ErrShape {
		t.Error("Below", a, b, got, e)
	}
	if got, e := Join(a, b); e != api.ErrShape || !isZero(got) {
		t.Error("Join", a, b, got, e)
	}
	if got, e := Meet(a, b); e != api.ErrShape || !isZero(got) {
		t.Error("Meet", a, b, got, e)
	}
}

// P2.4

func TestCount(t *testing.T) {
	source := rand.New(rand.NewSource(5))
	for n := 0; n <= api.MaxCells; n += 1 + n/100 {
		cells := someCells(source, n)
		checkCount(t, cells)
		for v := range 4 {
			for i := range cells {
				cells[i] = v
			}
			checkCount(t, cells)
		}
	}
	for _, n := range widths() {
		checkCount(t, someCells(source, n))
	}
}

func checkCount(t *testing.T, cells []int) {
	t.Helper()
	var want [4]int
	for _, c := range cells {
		want[c]++
	}
	for v := range 4 {
		if n, e := Count(pack(cells...), v); n != want[v] || e != api.OK {
			t.Fatal(len(cells), v, n, want[v], e)
		}
	}
}

func TestCountOutOfRange(t *testing.T) {
	for _, n := range widths() {
		for _, v := range append(outside(), 4, 5, 7, 1<<32, math.MaxInt) {
			if got, e := Count(pack(make([]int, n)...), v); got != 0 || e != api.ErrRange {
				t.Error(n, v, got, e)
			}
		}
	}
}

// The examples of the document.
func TestExamples(t *testing.T) {
	r, _ := New(33)
	a, _ := Put(r, 32, 3)
	b, _ := Put(r, 1, 2)
	if !slices.Equal(r.Bits, []uint64{0, 0}) || !slices.Equal(a.Bits, []uint64{0, 3}) || !slices.Equal(b.Bits, []uint64{8, 0}) {
		t.Error(r, a, b)
	}
	p, q := pack(2, 1), pack(1, 3)
	below, _ := Below(p, q)
	j, _ := Join(p, q)
	m, _ := Meet(p, q)
	if below || !slices.Equal(cellsOf(j), []int{2, 3}) || !slices.Equal(cellsOf(m), []int{1, 1}) {
		t.Error(below, j, m)
	}
	threes, _ := Count(pack(0, 3, 3), 3)
	ones, _ := Count(pack(0, 3, 3), 1)
	if threes != 2 || ones != 0 {
		t.Error(threes, ones)
	}
}
