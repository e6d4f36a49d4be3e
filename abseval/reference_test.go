package abseval

import (
	"maps"
	"math/rand"
	"slices"
	"strings"
	"testing"

	"fathom/api"
	"fathom/lang"
	"fathom/scope"
	"fathom/trial"
)

// What the calls are held against: the document's words once more. Names are copied wherever one is bound; what layers 15 and
// 16 say of conses, cases and tuples is written out.

type words struct {
	p      api.Program
	tables []api.Table
}

func and(names map[string]api.Point, name string, p api.Point) map[string]api.Point {
	more := maps.Clone(names)
	more[name] = p
	return more
}

func (w words) point(e api.Expr, names map[string]api.Point) api.Point {
	part := func(i int, names map[string]api.Point) api.Point { return w.point(e.Args[i], names) }
	switch e.Op {
	case api.OpNum, api.OpTrue, api.OpFalse:
		return 1
	case api.OpNil:
		return 3
	case api.OpFail:
		return 0
	case api.OpVar:
		return names[e.Name]
	case api.OpCons:
		return [2][4]api.Point{{1, 1, 2, 2}, {1, 1, 2, 3}}[part(0, names)][part(1, names)]
	case api.OpIf:
		if part(0, names) == 0 {
			return 0
		}
		return max(part(1, names), part(2, names))
	case api.OpCase:
		ways := [4][]api.Point{{0}, {0}, {0}, {0, part(1, names)}}[part(0, names)]
		for _, way := range [4][][2]api.Point{{}, {{1, 1}}, {{0, 3}, {1, 2}}, {{1, 3}}}[part(0, names)] {
			ways = append(ways, part(2, and(and(names, e.Name, way[0]), e.Tail, way[1])))
		}
		return slices.Max(ways)
	case api.OpLet:
		so := api.Point(0)
		for part(0, and(names, e.Name, so)) > so {
			so = part(0, and(names, e.Name, so))
		}
		return part(1, and(names, e.Name, so))
	case api.OpStrict:
		if part(0, names) == 0 {
			return 0
		}
		return part(1, and(names, e.Name, part(0, names)))
	}
	var all []api.Point
	for i := range e.Args {
		all = append(all, part(i, names))
	}
	if e.Op == api.OpCall {
		return w.at(e.Name, all)
	}
	return slices.Min(all)
}

// at is what the table of a function has at a tuple.
func (w words) at(name string, tuple []api.Point) api.Point {
	i := slices.IndexFunc(w.p.Funcs, func(f api.Func) bool { return f.Name == name })
	n := 0
	for k, p := range tuple {
		n = n*(int(topOf(w.p.Funcs[i].Params[k].Type))+1) + int(p)
	}
	return cells(w.tables[i])[n]
}

// body is the point of a function's body at a tuple.
func (w words) body(f api.Func, tuple []api.Point) api.Point {
	names := map[string]api.Point{}
	for i, x := range f.Params {
		names[x.Name] = tuple[i]
	}
	return w.point(f.Body, names)
}

// round is a function's table.
func (w words) round(f api.Func) api.Table {
	var all []api.Point
	for _, tuple := range tuplesOf(kindsOf(f)) {
		all = append(all, w.body(f, tuple))
	}
	return pack(kindsOf(f), f.Type, all...)
}

func topOf(t api.Type) api.Point {
	if t == api.TypeL {
		return 3
	}
	return 1
}

func kindsOf(f api.Func) []api.Type {
	var all []api.Type
	for _, x := range f.Params {
		all = append(all, x.Type)
	}
	return all
}

// tuplesOf are all tuples of a list of types, in the order of their numbers.
func tuplesOf(kinds []api.Type) [][]api.Point {
	all := [][]api.Point{nil}
	for _, kind := range kinds {
		var longer [][]api.Point
		for _, tuple := range all {
			for p := api.Point(0); p <= topOf(kind); p++ {
				longer = append(longer, append(slices.Clone(tuple), p))
			}
		}
		all = longer
	}
	return all
}

// pack is the table of these points.
func pack(kinds []api.Type, t api.Type, points ...api.Point) api.Table {
	bits := make([]uint64, (len(points)+31)/32)
	for i, p := range points {
		bits[i/32] += uint64(p) << (2 * (i % 32))
	}
	return api.Table{Params: kinds, Type: t, Row: api.Row{N: len(points), Bits: bits}}
}

// cells are a table's points.
func cells(x api.Table) []api.Point {
	all := make([]api.Point, x.Row.N)
	for i := range all {
		all[i] = api.Point(x.Row.Bits[i/32] >> (2 * (i % 32)) & 3)
	}
	return all
}

func sameTable(a, b api.Table) bool {
	return slices.Equal(a.Params, b.Params) && a.Type == b.Type && a.Row.N == b.Row.N && slices.Equal(a.Row.Bits, b.Row.Bits)
}

func sameTables(a, b []api.Table) bool { return slices.EqualFunc(a, b, sameTable) }

// typesOf are the types of these letters.
func typesOf(letters string) []api.Type {
	var all []api.Type
	for _, c := range letters {
		all = append(all, api.Type(strings.IndexRune(" NBL", c)))
	}
	return all
}

// table is one of points written one behind the other; the last letter is its type's.
func table(letters, points string) api.Table {
	var all []api.Point
	for _, c := range points {
		all = append(all, api.Point(c-'0'))
	}
	kinds := typesOf(letters)
	return pack(kinds[:len(kinds)-1], kinds[len(kinds)-1], all...)
}

// zeros are tables that fit a program, 0 everywhere.
func zeros(p api.Program) []api.Table {
	var all []api.Table
	for _, f := range p.Funcs {
		all = append(all, pack(kindsOf(f), f.Type, make([]api.Point, len(tuplesOf(kindsOf(f))))...))
	}
	return all
}

// someTables are tables that fit a program, of which hardly one rises.
func someTables(source *rand.Rand, p api.Program) []api.Table {
	all := zeros(p)
	for i, x := range all {
		points := cells(x)
		for k := range points {
			points[k] = api.Point(source.Intn(int(topOf(x.Type)) + 1))
		}
		all[i] = pack(x.Params, x.Type, points...)
	}
	return all
}

func nowhereGreater(a, b []api.Point) bool {
	for i, p := range a {
		if p > b[i] {
			return false
		}
	}
	return true
}

// lift makes points of a table greater, so that it still rises: from a drawn tuple on they are at least a drawn point.
func lift(source *rand.Rand, x api.Table) api.Table {
	all, points := tuplesOf(x.Params), cells(x)
	for range source.Intn(4) {
		from, p := all[source.Intn(len(all))], api.Point(source.Intn(int(topOf(x.Type))+1))
		for i, tuple := range all {
			if nowhereGreater(from, tuple) {
				points[i] = max(points[i], p)
			}
		}
	}
	return pack(x.Params, x.Type, points...)
}

func liftAll(source *rand.Rand, tables []api.Table) []api.Table {
	var all []api.Table
	for _, x := range tables {
		all = append(all, lift(source, x))
	}
	return all
}

// place is an expression of a function, and the names that are bound around it; of a name that is bound twice over the
// nearest stands last.
type place struct {
	e     api.Expr
	names []api.Bind
}

// places are an expression and all its parts, with names that have no points yet.
func places(e api.Expr, names []api.Bind) []place {
	all := []place{{e, names}}
	for i, part := range e.Args {
		inner := slices.Clone(names)
		switch {
		case e.Op == api.OpLet, e.Op == api.OpStrict && i == 1:
			inner = append(inner, api.Bind{Name: e.Name, Type: e.Type})
		case e.Op == api.OpCase && i == 2:
			inner = append(inner, api.Bind{Name: e.Name, Type: api.TypeN}, api.Bind{Name: e.Tail, Type: api.TypeL})
		}
		all = append(all, places(part, inner)...)
	}
	return all
}

func placesOf(f api.Func) []place {
	var names []api.Bind
	for _, x := range f.Params {
		names = append(names, api.Bind{Name: x.Name, Type: x.Type})
	}
	return places(f.Body, names)
}

// somePoints gives names drawn points.
func somePoints(source *rand.Rand, names []api.Bind) []api.Bind {
	all := slices.Clone(names)
	for i, x := range all {
		all[i].Point = api.Point(source.Intn(int(topOf(x.Type)) + 1))
	}
	return all
}

func asMap(names []api.Bind) map[string]api.Point {
	all := map[string]api.Point{}
	for _, x := range names {
		all[x.Name] = x.Point
	}
	return all
}

var wide = api.Limits{Text: api.MaxWide, Funcs: 1 << 15, Arity: 1 << 15, Nest: 1 << 15}

func programOf(t *testing.T, text string) api.Program {
	t.Helper()
	p, f := lang.Parse([]byte(text), wide)
	if f != (api.Fault{}) {
		t.Fatalf("%.300q: %v", text, f)
	}
	return p
}

func exprOf(t *testing.T, text string) api.Expr {
	t.Helper()
	return programOf(t, "f():N="+text+";").Funcs[0].Body
}

// drawPrograms are n sound programs of about so many parts a definition at most; the same each time for one seed.
func drawPrograms(t *testing.T, seed int64, n, room int) []api.Program {
	t.Helper()
	source := rand.New(rand.NewSource(seed))
	var all []api.Program
	for range n {
		all = append(all, programOf(t, trial.Program(source.Intn, room)))
	}
	return all
}

func tooDeep(e api.Expr) bool { return scope.Nest(e) > api.MaxNest }
