package tuples

import (
	"math/rand"
	"slices"
	"testing"

	"fathom/api"
)

// nowhereGreater: is each point of a at most b's one at its place?
func nowhereGreater(a, b []api.Point) bool {
	for i, p := range a {
		if p > b[i] {
			return false
		}
	}
	return true
}

// risesByWords looks at all pairs of tuples, as the document's words say.
func risesByWords(params []api.Type, cells []api.Point) bool {
	all := tuplesOf(params)
	for i, lesser := range all {
		for k, greater := range all {
			if nowhereGreater(lesser, greater) && cells[i] > cells[k] {
				return false
			}
		}
	}
	return true
}

func checkRises(t *testing.T, params []api.Type, kind api.Type, cells []api.Point) {
	t.Helper()
	want := risesByWords(params, cells)
	if got, e := Rises(pack(params, kind, cells...)); got != want || e != api.OK {
		t.Fatalf("%v with %d, %v: %t, %v; not %t", params, kind, cells, got, e, want)
	}
}

// P16.4, Rises

// All tables of few cells.
func TestRisesOfFewCells(t *testing.T) {
	for _, params := range [][]api.Type{nil, {n}, {b}, {l}, {n, n}, {b, l}, {l, n}, {n, b, n}} {
		for _, kind := range []api.Type{n, l} {
			if kind == l && len(tuplesOf(params)) > 4 {
				continue
			}
			cells := make([]api.Point, len(tuplesOf(params)))
			for {
				checkRises(t, params, kind, cells)
				i := 0
				for i < len(cells) && cells[i] == topOf(kind) {
					cells[i] = 0
					i++
				}
				if i == len(cells) {
					break
				}
				cells[i]++
			}
		}
	}
}

// rising are the cells of a table that rises: of each tuple the greatest of what a few tuples give to all above them.
func rising(source *rand.Rand, params []api.Type, t api.Type) []api.Point {
	all := tuplesOf(params)
	cells := make([]api.Point, len(all))
	for range 1 + source.Intn(5) {
		from, p := all[source.Intn(len(all))], api.Point(source.Intn(int(topOf(t))+1))
		for i, tuple := range all {
			if nowhereGreater(from, tuple) {
				cells[i] = max(cells[i], p)
			}
		}
	}
	return cells
}

// Tables that rise, and the same with one cell changed, which breaks some of them.
func TestRisesButForOneCell(t *testing.T) {
	source := rand.New(rand.NewSource(4))
	rose, fell := 0, 0
	for many := range 4 {
		for _, params := range listsOf(many) {
			for range 20 {
				kind := []api.Type{n, b, l}[source.Intn(3)]
				cells := rising(source, params, kind)
				if !risesByWords(params, cells) {
					t.Fatal(params, kind, cells)
				}
				checkRises(t, params, kind, cells)
				cells[source.Intn(len(cells))] = api.Point(source.Intn(int(topOf(kind)) + 1))
				checkRises(t, params, kind, cells)
				if risesByWords(params, cells) {
					rose++
				} else {
					fell++
				}
			}
		}
	}
	if rose < 100 || fell < 100 {
		t.Error(rose, fell)
	}
}

// The greatest tables: one step down, along each of the parameters and wherever it is.
func TestRisesOfGreatTables(t *testing.T) {
	for _, params := range [][]api.Type{some(6, l), some(12, n), slices.Concat(some(5, l), []api.Type{b, n}), slices.Concat([]api.Type{b}, some(5, l), []api.Type{n})} {
		all := tuplesOf(params)
		cells := make([]api.Point, len(all))
		for i, tuple := range all {
			if slices.Max(tuple) > 0 {
				cells[i] = 1
			}
		}
		if got, e := Rises(pack(params, b, cells...)); !got || e != api.OK {
			t.Errorf("%v: %t, %v", params, got, e)
		}
		for i := 1; i < len(all); i++ {
			// Just the tuples that have one 1 and noughts may be 0: they stand above that of noughts alone.
			want := sum(all[i]) == 1
			cells[i] = 0
			if got, e := Rises(pack(params, b, cells...)); got != want || e != api.OK {
				t.Fatalf("%v, 0 at %v: %t, %v; not %t", params, all[i], got, e, want)
			}
			cells[i] = 1
		}
	}
}

func sum(tuple []api.Point) api.Point {
	s := api.Point(0)
	for _, p := range tuple {
		s += p
	}
	return s
}

// P16.5

func TestOneToOne(t *testing.T) {
	for _, params := range slices.Concat(fewTypes()[:121], [][]api.Type{some(4, l), some(6, l), some(12, b)}) {
		many, e := Count(params)
		if e != api.OK {
			t.Fatal(params, e)
		}
		var before [][]api.Point
		for number := range many {
			tuple, e := Tuple(params, number)
			back, f := Number(params, tuple)
			if e != api.OK || f != api.OK || back != number {
				t.Fatalf("%v: Tuple %d is %v, %v; its Number %d, %v", params, number, tuple, e, back, f)
			}
			if many <= 256 && slices.ContainsFunc(before, func(other []api.Point) bool { return nowhereGreater(tuple, other) }) {
				t.Fatalf("%v: %v stands behind one that is everywhere at least as great", params, tuple)
			}
			before = append(before, tuple)
		}
	}
}

// What is set is got, and all else stays, through many changes of one table.
func TestSetIsGot(t *testing.T) {
	source := rand.New(rand.NewSource(5))
	for _, params := range [][]api.Type{nil, {l}, {n, b}, {b, l, n}, {l, l}, {l, l, l}, {n, l, n, l}} {
		for _, kind := range []api.Type{n, b, l} {
			all := tuplesOf(params)
			cells := make([]api.Point, len(all))
			x, e := New(params, kind)
			for range 200 {
				number, p := source.Intn(len(all)), api.Point(source.Intn(int(topOf(kind))+1))
				cells[number] = p
				y, f := Set(x, all[number], p)
				if e != api.OK || f != api.OK || Check(y) != api.OK {
					t.Fatal(params, kind, y, e, f)
				}
				for i, tuple := range all {
					if got, e := At(y, tuple); got != cells[i] || e != api.OK {
						t.Fatalf("%v with %d, %d set at %v: %d, %v at %v", params, kind, p, all[number], got, e, tuple)
					}
				}
				x = y
			}
		}
	}
}

// P16.6

// roomy is a list with spare room behind it that holds a sign.
func roomy[T ~int](list []T) []T {
	room := slices.Concat(list, []T{-77, -78, -79})
	return room[:len(list)]
}

func isKept[T ~int](list, as []T) bool {
	return slices.Equal(list, as) && slices.Equal(list[len(list):len(list)+3], []T{-77, -78, -79})
}

func TestWhatIsHandedInStays(t *testing.T) {
	source := rand.New(rand.NewSource(6))
	for _, params := range [][]api.Type{{}, {l}, {b, l, n}, {l, l, l}, some(6, l)} {
		cells := someCells(source, params, l)
		all := tuplesOf(params)
		number := len(all) / 2
		types, tuple := roomy(params), roomy(all[number])
		x := pack(types, l, cells...)
		bits := append(slices.Clone(x.Row.Bits), 1<<40, 5)
		x.Row.Bits = bits[:len(bits)-2]
		kept := slices.Clone(bits)
		Count(types)
		Number(types, tuple)
		Tuple(types, number)
		New(types, l)
		Check(x)
		At(x, tuple)
		Set(x, tuple, 3-cells[number])
		Rises(x)
		if !isKept(types, params) || !isKept(tuple, all[number]) || !slices.Equal(bits, kept) {
			t.Errorf("%v: %v, %v, %v left", params, types, tuple, bits)
		}
	}
}

// spoil writes over all the memory of a list, its spare room too.
func spoil[T ~int | ~uint64](list []T) {
	all := list[:cap(list)]
	for i := range all {
		all[i] = 99
	}
}

func spoilTable(x api.Table) {
	spoil(x.Params)
	spoil(x.Row.Bits)
}

// Whatever is done to an answer, what was handed in stays, and so does what is answered elsewhere, earlier and later.
func TestAnswersAreNewMemory(t *testing.T) {
	for _, params := range [][]api.Type{{}, {l}, {b, l, n}, {l, l, l}, some(6, l)} {
		types, noughts := roomy(params), roomy(make([]api.Point, len(params)))
		zero := pack(params, l, make([]api.Point, len(tuplesOf(params)))...)
		first, _ := Tuple(types, 0)
		second, _ := Tuple(types, 0)
		spoil(first)
		third, _ := Tuple(types, 0)
		if !slices.Equal(second, noughts) || !slices.Equal(third, noughts) {
			t.Errorf("Tuple of %v: %v, %v", params, second, third)
		}
		x, _ := New(types, l)
		y, _ := New(types, l)
		spoilTable(y)
		if !sameTable(x, zero) || !isKept(types, params) {
			t.Errorf("New of %v: %v, %v", params, x, types)
		}
		for p := api.Point(0); p <= 3; p++ {
			changed, _ := Set(x, noughts, p)
			again, _ := Set(changed, noughts, p)
			spoilTable(changed)
			if at, e := At(again, noughts); at != p || e != api.OK || !sameTable(x, zero) || !slices.Equal(again.Params, params) {
				t.Errorf("Set of %v: %v, %v", params, x, again)
			}
		}
		if !isKept(types, params) || !isKept(noughts, make([]api.Point, len(params))) {
			t.Errorf("%v: %v, %v left", params, types, noughts)
		}
	}
}

// Whoever hands in a list may change it when the call has answered.
func TestNothingIsKept(t *testing.T) {
	types := []api.Type{b, l}
	x, e := New(types, l)
	spoil(types)
	y, f := Set(x, []api.Point{1, 3}, 2)
	spoilTable(x)
	if e != api.OK || f != api.OK || !sameTable(y, pack([]api.Type{b, l}, l, 0, 0, 0, 0, 0, 0, 0, 2)) {
		t.Error(y, e, f)
	}
}
