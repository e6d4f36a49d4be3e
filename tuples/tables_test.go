package tuples

import (
	"math"
	"math/rand"
	"slices"
	"testing"

	"fathom/api"
)

// pack makes a table of these cells by the document's words, without the package's help.
func pack(params []api.Type, t api.Type, cells ...api.Point) api.Table {
	bits := make([]uint64, (len(cells)+31)/32)
	for i, c := range cells {
		bits[i/32] += uint64(c) << (2 * (i % 32))
	}
	return api.Table{Params: params, Type: t, Row: api.Row{N: len(cells), Bits: bits}}
}

// someCells are cells of a fixed sequence, as many as there are tuples, none above the type's top.
func someCells(source *rand.Rand, params []api.Type, t api.Type) []api.Point {
	cells := make([]api.Point, len(tuplesOf(params)))
	for i := range cells {
		cells[i] = api.Point(source.Intn(int(topOf(t)) + 1))
	}
	return cells
}

func topOf(t api.Type) api.Point {
	if t == l {
		return 3
	}
	return 1
}

func sameTable(a, b api.Table) bool {
	return slices.Equal(a.Params, b.Params) && a.Type == b.Type && a.Row.N == b.Row.N && slices.Equal(a.Row.Bits, b.Row.Bits)
}

func isZero(t api.Table) bool { return sameTable(t, api.Table{}) }

// noTables break each part of what a table is.
func noTables() []api.Table {
	four := api.Row{N: 4, Bits: []uint64{0}}
	all := []api.Table{
		{}, {Type: n}, {Params: some(1, l), Row: four}, {Params: some(1, l), Type: n}, {Params: some(1, n), Type: n, Row: four}, {Params: some(1, l), Type: n, Row: api.Row{N: 2, Bits: []uint64{0}}},
		{Params: some(1, l), Type: n, Row: api.Row{N: 4}}, {Params: some(1, l), Type: n, Row: api.Row{N: 4, Bits: []uint64{0, 0}}}, {Params: some(1, l), Type: n, Row: api.Row{N: 4, Bits: []uint64{256}}},
		{Params: some(1, l), Type: n, Row: api.Row{N: -4, Bits: []uint64{0}}}, {Params: some(1, l), Type: n, Row: api.Row{N: math.MinInt}}, {Params: some(1, l), Type: n, Row: api.Row{N: math.MaxInt, Bits: []uint64{0}}},
		{Type: n, Row: api.Row{N: 1, Bits: []uint64{4}}}, {Type: l, Row: api.Row{N: 1, Bits: []uint64{1 << 63}}}, {Type: n, Row: api.Row{Bits: []uint64{0}}},
		{Params: some(2, n), Type: b, Row: api.Row{N: 3, Bits: []uint64{0}}}, {Params: some(3, l), Type: l, Row: api.Row{N: 64, Bits: []uint64{0}}}, {Params: some(3, l), Type: l, Row: api.Row{N: 63, Bits: []uint64{0, 0}}},
	}
	for _, kind := range []api.Type{0, 4, -1, math.MinInt, math.MaxInt, 1<<32 + n} {
		all = append(all, api.Table{Params: some(1, l), Type: kind, Row: four}, api.Table{Type: kind, Row: api.Row{N: 1, Bits: []uint64{0}}})
	}
	for _, params := range slices.Concat(tooMany(), noTypes()) {
		all = append(all, pack(params, n, 0), pack(params, l, make([]api.Point, 4096)...), pack(params, l, make([]api.Point, 4)...))
	}
	return append(all, pack(some(7, l), l, make([]api.Point, 4*4096)...), pack(some(13, b), n, make([]api.Point, 8192)...))
}

// P16.3

func TestNew(t *testing.T) {
	for _, params := range fewTypes() {
		for _, kind := range []api.Type{n, b, l} {
			got, e := New(params, kind)
			if e != api.OK || !sameTable(got, pack(params, kind, make([]api.Point, len(tuplesOf(params)))...)) {
				t.Errorf("New of %v with %d: %v, %v", params, kind, got, e)
			}
		}
		for _, kind := range []api.Type{0, 4, -1, math.MinInt, math.MaxInt, 1<<32 + n} {
			if got, e := New(params, kind); e != api.ErrShape || !isZero(got) {
				t.Errorf("New of %v with %d: %v, %v", params, kind, got, e)
			}
		}
	}
	// The errors of Count are told ahead of a type that is none.
	for _, kind := range []api.Type{n, b, l, 0, 4, -1} {
		for _, params := range tooMany() {
			if got, e := New(params, kind); e != api.ErrTooBig || !isZero(got) {
				t.Errorf("New of %d types with %d: %v, %v", len(params), kind, got, e)
			}
		}
		for _, params := range noTypes() {
			if got, e := New(params, kind); e != api.ErrShape || !isZero(got) {
				t.Errorf("New of %v with %d: %v, %v", params, kind, got, e)
			}
		}
	}
}

func TestCheck(t *testing.T) {
	source := rand.New(rand.NewSource(1))
	for _, params := range fewTypes() {
		for _, kind := range []api.Type{n, b, l} {
			if e := Check(pack(params, kind, someCells(source, params, kind)...)); e != api.OK {
				t.Errorf("%v with %d: %v", params, kind, e)
			}
		}
	}
	for _, x := range noTables() {
		if e := Check(x); e != api.ErrShape {
			t.Errorf("%v: %v", x, e)
		}
	}
}

// One cell that holds more than the type's top breaks a table, at each place and whatever the others hold.
func TestCheckOfEachCell(t *testing.T) {
	for _, params := range [][]api.Type{nil, {n}, {l}, {b, l}, {l, l}, {n, l, l}, {l, l, l}} {
		for _, kind := range []api.Type{n, b, l} {
			for i := range tuplesOf(params) {
				for v := api.Point(0); v <= 3; v++ {
					for fill := api.Point(0); fill <= topOf(kind); fill++ {
						cells := slices.Repeat([]api.Point{fill}, len(tuplesOf(params)))
						cells[i] = v
						if e := Check(pack(params, kind, cells...)); (e == api.OK) != (v <= topOf(kind)) || e != api.OK && e != api.ErrShape {
							t.Errorf("%v with %d, %d at %d: %v", params, kind, v, i, e)
						}
					}
				}
			}
		}
	}
}

// P16.4

func TestAt(t *testing.T) {
	source := rand.New(rand.NewSource(2))
	for _, params := range fewTypes() {
		for _, kind := range []api.Type{n, b, l} {
			cells := someCells(source, params, kind)
			x := pack(params, kind, cells...)
			for number, tuple := range tuplesOf(params) {
				if p, e := At(x, tuple); p != cells[number] || e != api.OK {
					t.Fatalf("%v with %d at %v: %d, %v; not %d", params, kind, tuple, p, e, cells[number])
				}
			}
		}
	}
}

func TestSet(t *testing.T) {
	source := rand.New(rand.NewSource(3))
	for _, params := range fewTypes() {
		for _, kind := range []api.Type{n, b, l} {
			cells := someCells(source, params, kind)
			x, all := pack(params, kind, cells...), tuplesOf(params)
			for number := 0; number < len(all); number += 1 + len(all)/100 {
				for p := api.Point(0); p <= topOf(kind); p++ {
					want := slices.Clone(cells)
					want[number] = p
					if got, e := Set(x, all[number], p); e != api.OK || !sameTable(got, pack(params, kind, want...)) {
						t.Fatalf("%v with %d, %d set at %v: %v, %v", params, kind, p, all[number], got, e)
					}
				}
			}
		}
	}
}

// checkRefused holds At and Set to an error, the same for both, whatever point is to be set.
func checkRefused(t *testing.T, x api.Table, tuple []api.Point, want api.Errno) {
	t.Helper()
	if p, e := At(x, tuple); p != 0 || e != want {
		t.Errorf("%v at %v: %d, %v; not %v", x, tuple, p, e, want)
	}
	for _, p := range []api.Point{0, 1, 3, -1, 4, math.MaxInt} {
		if got, e := Set(x, tuple, p); e != want || !isZero(got) {
			t.Errorf("%v, %d set at %v: %v, %v; not %v", x, p, tuple, got, e, want)
		}
	}
}

func TestNoTable(t *testing.T) {
	for _, x := range noTables() {
		for _, tuple := range [][]api.Point{nil, {0}, {-1}, {9, 9}, make([]api.Point, len(x.Params)), slices.Repeat([]api.Point{7}, len(x.Params))} {
			checkRefused(t, x, tuple, api.ErrShape)
		}
		if rises, e := Rises(x); rises || e != api.ErrShape {
			t.Errorf("%v rises: %t, %v", x, rises, e)
		}
	}
}

func TestNoTupleOfTable(t *testing.T) {
	for many := range 4 {
		for _, params := range listsOf(many) {
			for _, kind := range []api.Type{n, b, l} {
				x := pack(params, kind, make([]api.Point, len(tuplesOf(params)))...)
				checkRefused(t, x, make([]api.Point, many+1), api.ErrShape)
				checkRefused(t, x, slices.Repeat([]api.Point{9}, many+1), api.ErrShape)
				if many > 0 {
					checkRefused(t, x, nil, api.ErrShape)
				}
				for i, of := range params {
					for _, p := range wrongPoints(of) {
						tuple := make([]api.Point, many)
						tuple[i] = p
						checkRefused(t, x, tuple, api.ErrRange)
					}
				}
			}
		}
	}
}

func TestSetNoPoint(t *testing.T) {
	for _, params := range fewTypes() {
		for _, kind := range []api.Type{n, b, l} {
			x := pack(params, kind, make([]api.Point, len(tuplesOf(params)))...)
			for _, p := range wrongPoints(kind) {
				if got, e := Set(x, make([]api.Point, len(params)), p); e != api.ErrRange || !isZero(got) {
					t.Errorf("%v with %d, %d set: %v, %v", params, kind, p, got, e)
				}
			}
		}
	}
}

// The examples of the document.
func TestExamplesOfTables(t *testing.T) {
	x, e := New([]api.Type{l}, n)
	if e != api.OK || x.Row.N != 4 {
		t.Error(x, e)
	}
	y, e := Set(x, []api.Point{3}, 1)
	if rises, f := Rises(y); e != api.OK || f != api.OK || !rises || !slices.Equal(y.Row.Bits, []uint64{64}) {
		t.Error(y, e, rises, f)
	}
	z, e := Set(y, []api.Point{1}, 1)
	if rises, f := Rises(z); e != api.OK || f != api.OK || rises {
		t.Error(z, e, rises, f)
	}
}
