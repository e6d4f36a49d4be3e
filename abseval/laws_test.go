package abseval

import (
	"math/rand"
	"reflect"
	"slices"
	"strconv"
	"strings"
	"testing"

	"fathom/api"
	"fathom/points"
	"fathom/show"
	"fathom/trial"
	"fathom/tuples"
	"fathom/types"
)

// tally counts how often each point was answered.
type tally [4]int

func (c tally) expectOften(t *testing.T, often int) {
	t.Helper()
	if slices.Min(c[:]) < often {
		t.Errorf("the points were answered %v times", c)
	}
}

// Drawn functions' bodies and tables are as the words say, by whatever tables.
func TestFunctionsByWords(t *testing.T) {
	source := rand.New(rand.NewSource(1))
	var seen tally
	deep := 0
	for _, p := range drawPrograms(t, 171, 1500, 40) {
		for _, tables := range [][]api.Table{zeros(p), someTables(source, p), liftAll(source, zeros(p))} {
			w := words{p, tables}
			for i, f := range p.Funcs {
				if tooDeep(f.Body) {
					deep++
					expectFunctionErrors(t, p, tables, i, tuplesOf(kindsOf(f))[0], api.ErrNest)
					continue
				}
				want := w.round(f)
				if got, e := Round(p, tables, i); !sameTable(got, want) || e != api.OK {
					t.Fatalf("%s%d by %v: %v, %v; not %v", show.Program(p), i, tables, got, e, want)
				}
				for n, tuple := range tuplesOf(kindsOf(f)) {
					got, e := Body(p, tables, i, tuple)
					if got != cells(want)[n] || e != api.OK {
						t.Fatalf("%s%d at %v by %v: %d, %v; not %d", show.Program(p), i, tuple, tables, got, e, cells(want)[n])
					}
					seen[got]++
				}
			}
		}
	}
	seen.expectOften(t, 1000)
	if deep < 20 {
		t.Error("only", deep, "bodies nest too deep")
	}
}

// So are all parts of drawn functions, whatever points the names around them have.
func TestPartsByWords(t *testing.T) {
	source := rand.New(rand.NewSource(2))
	var seen tally
	for _, p := range drawPrograms(t, 172, 400, 30) {
		tables := someTables(source, p)
		for _, f := range p.Funcs {
			for _, x := range placesOf(f) {
				names := somePoints(source, x.names)
				got, e := Expr(p, tables, names, x.e)
				if tooDeep(x.e) {
					if got != 0 || e != api.ErrNest {
						t.Fatalf("%s nests too deep: %d, %v", show.Expr(x.e), got, e)
					}
					continue
				}
				want := words{p, tables}.point(x.e, asMap(names))
				if got != want || e != api.OK {
					t.Fatalf("%s%s with %v by %v: %d, %v; not %d", show.Program(p), show.Expr(x.e), names, tables, got, e, want)
				}
				seen[got]++
			}
		}
	}
	seen.expectOften(t, 500)
}

// Expr is OK just where layer 7 says a type of the expression, and its point is one of that type: by names as they are, with
// one too few, and with one of another type.
func TestTypesByLayer7(t *testing.T) {
	source := rand.New(rand.NewSource(3))
	counts := map[api.Errno]int{}
	for _, p := range drawPrograms(t, 173, 300, 30) {
		tables := someTables(source, p)
		for _, f := range p.Funcs {
			for _, x := range placesOf(f) {
				for range 3 {
					names := somePoints(source, x.names)
					if len(names) > 0 {
						i := source.Intn(len(names))
						names[i] = api.Bind{Name: names[i].Name, Type: api.Type(1 + source.Intn(3)), Point: 1}
						names = slices.Delete(names, source.Intn(len(names)), len(names))
					}
					var env []api.Param
					for _, b := range names {
						env = append(env, api.Param{Name: b.Name, Type: b.Type})
					}
					kind, why := types.Of(p, env, x.e)
					got, e := Expr(p, tables, names, x.e)
					counts[e]++
					if (why != api.OK) != (e == api.ErrShape) || e != api.OK && got != 0 || e == api.OK && points.Check(kind, got) != api.OK {
						t.Fatalf("%s%s with %v: %d, %v; of type %d, %v", show.Program(p), show.Expr(x.e), names, got, e, kind, why)
					}
				}
			}
		}
	}
	if counts[api.OK] < 1000 || counts[api.ErrShape] < 1000 {
		t.Error(counts)
	}
}

// P17.4

// raise gives names points that are no lesser.
func raise(source *rand.Rand, names []api.Bind) []api.Bind {
	higher := somePoints(source, names)
	for i, x := range names {
		higher[i].Point = max(x.Point, higher[i].Point)
	}
	return higher
}

func TestGreaterMakesNoLesser(t *testing.T) {
	source := rand.New(rand.NewSource(4))
	greater := 0
	for _, p := range drawPrograms(t, 174, 500, 30) {
		low := liftAll(source, zeros(p))
		high := liftAll(source, low)
		for _, tables := range [][]api.Table{low, high} {
			for _, x := range tables {
				if is, e := tuples.Rises(x); !is || e != api.OK {
					t.Fatal(x, is, e)
				}
			}
		}
		for _, f := range p.Funcs {
			for _, x := range placesOf(f) {
				if tooDeep(x.e) {
					continue
				}
				less := somePoints(source, x.names)
				more := raise(source, less)
				a, e := Expr(p, low, less, x.e)
				b, why := Expr(p, high, more, x.e)
				if a > b || e != api.OK || why != api.OK {
					t.Fatalf("%s%s with %v by %v: %d, %v; with %v by %v: %d, %v", show.Program(p), show.Expr(x.e), less, low, a, e, more, high, b, why)
				}
				if a < b {
					greater++
				}
			}
		}
	}
	if greater < 1000 {
		t.Error("only", greater, "points became greater")
	}
}

// By tables that rise the tables of a round rise, and greater ones make no lesser ones; a round's tables fit the program.
func TestRoundsOfGreaterTables(t *testing.T) {
	source := rand.New(rand.NewSource(5))
	for _, p := range drawPrograms(t, 175, 500, 30) {
		low := liftAll(source, zeros(p))
		high := liftAll(source, low)
		for i, f := range p.Funcs {
			if tooDeep(f.Body) {
				continue
			}
			a, e := Round(p, low, i)
			b, why := Round(p, high, i)
			if e != api.OK || why != api.OK || !nowhereGreater(cells(a), cells(b)) {
				t.Fatalf("%s%d by %v: %v, %v; by %v: %v, %v", show.Program(p), i, low, a, e, high, b, why)
			}
			for _, x := range []api.Table{a, b} {
				if is, e := tuples.Rises(x); !is || e != api.OK || !slices.Equal(x.Params, kindsOf(f)) || x.Type != f.Type {
					t.Fatalf("%s%d: %v, %t, %v", show.Program(p), i, x, is, e)
				}
			}
		}
	}
}

// P17.5

func roomyTable(x api.Table) api.Table {
	x.Params, x.Row.Bits = trial.Roomy(x.Params, 9), trial.Roomy(x.Row.Bits, 1<<60)
	return x
}

func roomyTables(tables []api.Table) []api.Table {
	all := slices.Clone(tables)
	for i, x := range all {
		all[i] = roomyTable(x)
	}
	return trial.Roomy(all, table("NN", "11"))
}

// wholeTables are tables with their spare room as if it were in use, in new memory.
func wholeTables(tables []api.Table) []api.Table {
	all := trial.Whole(tables)
	for i, x := range all {
		all[i].Params, all[i].Row.Bits = trial.Whole(x.Params), trial.Whole(x.Row.Bits)
	}
	return all
}

// spoil writes over all the memory of a table, its spare room too.
func spoil(x api.Table) {
	for i := range x.Params[:cap(x.Params)] {
		x.Params[:cap(x.Params)][i] = 77
	}
	for i := range x.Row.Bits[:cap(x.Row.Bits)] {
		x.Row.Bits[:cap(x.Row.Bits)][i] = 77
	}
}

func TestWhatIsHandedInStays(t *testing.T) {
	source := rand.New(rand.NewSource(6))
	for _, drawn := range drawPrograms(t, 176, 300, 30) {
		plain := someTables(source, drawn)
		p, tables := trial.RoomyProgram(drawn), roomyTables(plain)
		oldProgram, oldTables := trial.WholeProgram(p), wholeTables(tables)
		for i, f := range drawn.Funcs {
			tuple := trial.Roomy(tuplesOf(kindsOf(f))[0], 9)
			names := trial.Roomy(somePoints(source, placesOf(f)[0].names), api.Bind{Name: "x", Type: api.TypeB, Point: 9})
			oldTuple, oldNames := trial.Whole(tuple), trial.Whole(names)
			point, e := Expr(p, tables, names, p.Funcs[i].Body)
			if want, why := Expr(drawn, plain, slices.Clone(names), f.Body); point != want || e != why {
				t.Fatalf("%s%d: %d, %v hangs on spare room, is not %d, %v", show.Program(drawn), i, point, e, want, why)
			}
			point, e = Body(p, tables, i, tuple)
			if want, why := Body(drawn, plain, i, slices.Clone(tuple)); point != want || e != why {
				t.Fatalf("%s%d: %d, %v hangs on spare room, is not %d, %v", show.Program(drawn), i, point, e, want, why)
			}
			x, e := Round(p, tables, i)
			if want, why := Round(drawn, plain, i); !sameTable(x, want) || e != why {
				t.Fatalf("%s%d: %v, %v hangs on spare room, is not %v, %v", show.Program(drawn), i, x, e, want, why)
			}
			spoil(x)
			if !slices.Equal(trial.Whole(tuple), oldTuple) || !slices.Equal(trial.Whole(names), oldNames) {
				t.Fatalf("%s%d: %v, %v left", show.Program(drawn), i, tuple, names)
			}
		}
		if !reflect.DeepEqual(trial.WholeProgram(p), oldProgram) || !reflect.DeepEqual(wholeTables(tables), oldTables) {
			t.Fatalf("%s: no longer what it was", show.Program(drawn))
		}
	}
}

// Whatever is done to an answer, or to what was handed in, an answer that was given elsewhere stays.
func TestAnswersAreNewMemory(t *testing.T) {
	for _, text := range []string{"f():L=nil;", "f(l L):L=l;", "f(l L):L=f(l);", "f(x N,y B,l L):L=if y then x:l else f(x,y,l);", "f(a L,b L,c L):L=f(b,c,a);"} {
		p := programOf(t, text)
		tables := roomyTables(someTables(rand.New(rand.NewSource(7)), p))
		first, e := Round(p, tables, 0)
		second, why := Round(p, tables, 0)
		want := words{p, tables}.round(p.Funcs[0])
		spoil(second)
		if !sameTable(first, want) || e != api.OK || why != api.OK {
			t.Errorf("%s: %v, not %v", text, first, want)
		}
		spoil(tables[0])
		if !sameTable(first, want) {
			t.Errorf("%s: %v is kept with what was handed in, not %v", text, first, want)
		}
	}
}

// What is asked hangs on nothing that was asked before.
func TestCallsAreApart(t *testing.T) {
	p, q := programOf(t, "f(x N):N=x;g(l L):L=l;"), programOf(t, "g(x L):L=f(x);f(l L):L=1:l;")
	pTables, qTables := []api.Table{table("NN", "01"), table("LL", "0000")}, []api.Table{table("LL", "3333"), table("LL", "1123")}
	for range 3 {
		if got, e := Expr(p, pTables, bindsOf("x N 1, l L 2"), exprOf(t, "f(x)")); got != 1 || e != api.OK {
			t.Error(got, e)
		}
		if got, e := Expr(q, qTables, bindsOf("l L 2"), exprOf(t, "let x L=l in f(f(x))")); got != 2 || e != api.OK {
			t.Error(got, e)
		}
		if got, e := Expr(q, qTables, bindsOf("l L 2"), exprOf(t, "f(x)")); got != 0 || e != api.ErrShape {
			t.Error(got, e)
		}
		if got, e := Body(p, pTables, 1, []api.Point{3}); got != 3 || e != api.OK {
			t.Error(got, e)
		}
		if got, e := Round(q, qTables, 0); !sameTable(got, table("LL", "1123")) || e != api.OK {
			t.Error(got, e)
		}
	}
}

// Lets within the first parts of lets are settled each time anew, and all of it ends soon: of six, each three times over.
func TestLetsInLets(t *testing.T) {
	const s = "s(l L):L=l;"
	text := "s(a6)"
	for i := 6; i > 0; i-- {
		name := "a" + strconv.Itoa(i)
		text = "(let " + name + " L=s(" + text + ") in " + strings.Repeat("1:", 100) + name + ")"
	}
	kinds := slices.Repeat([]api.Type{api.TypeL}, 3)
	p := programOf(t, s+"f(x L,y L,z L):L="+strings.ReplaceAll(text, "s(a6)", "if true then s(s(a6)) else x")+";")
	tables := []api.Table{table("LL", "1233"), pack(kinds, api.TypeL, make([]api.Point, 64)...)}
	if got, e := Round(p, tables, 1); !sameTable(got, pack(kinds, api.TypeL, slices.Repeat([]api.Point{3}, 64)...)) || e != api.OK {
		t.Error(got, e)
	}
}

// The greatest tables there are: of a tuple turned round, of which the call is looked up in the table.
func TestGreatTables(t *testing.T) {
	source := rand.New(rand.NewSource(8))
	for letters, text := range map[string]string{
		"LLLLLLL": "f(a L,b L,c L,d L,e L,f L):L=f(f,a,b,c,d,e);", "NNNNNNNNNNNNN": "f(a N,b N,c N,d N,e N,f N,g N,h N,i N,j N,k N,l N):N=if a==1 then f(l,a,b,c,d,e,f,g,h,i,j,k) else f(b,c,d,e,f,g,h,i,j,k,l,a);",
		"LLLLLBNL": "f(a L,b L,c L,d L,e L,f B,g N):L=case a of nil->f(b,a,c,d,e,f,g)|h:t->h:f(e,d,c,t,a,f,h);",
	} {
		p := programOf(t, text)
		for _, tables := range [][]api.Table{someTables(source, p), zeros(p)} {
			if kinds := typesOf(letters); tables[0].Row.N != 4096 || !slices.Equal(tables[0].Params, kinds[:len(kinds)-1]) {
				t.Fatal(text, tables[0].Row.N)
			}
			if got, e := Round(p, tables, 0); !sameTable(got, words{p, tables}.round(p.Funcs[0])) || e != api.OK {
				t.Errorf("%s: %v, %v", text, got, e)
			}
		}
	}
}

// Parts may be nested 2^16 deep, but for binders.
func TestDeepExpressions(t *testing.T) {
	const deep = 1<<16 - 2
	p := programOf(t, "f(x N,l L):N=x;")
	tables := []api.Table{table("NLN", "00001111")}
	names := bindsOf("v N 0, x N 1, b B 1, l L 2")
	for _, r := range []struct {
		form string
		at   int
		want api.Point
	}{
		{"x+x", 0, 1}, {"x*x", 1, 1}, {"x-v", 0, 0}, {"conj(x)", 0, 1}, {"not(b)", 0, 1}, {"x:l", 1, 2}, {"if b then b else b", 0, 1}, {"if b then x else v", 1, 1}, {"if b then v else x", 2, 1}, {"if b then x else x", 1, 1}, {"f(x,l)", 0, 1}, {"f(v,l)", 0, 0},
	} {
		pattern := exprOf(t, r.form)
		e := pattern
		for range deep {
			outer := pattern
			outer.Args = slices.Clone(pattern.Args)
			outer.Args[r.at] = e
			e = outer
		}
		if got, why := Expr(p, tables, names, e); got != r.want || why != api.OK {
			t.Errorf("%s: %d, %v; not %d", r.form, got, why, r.want)
		}
	}
}

// Many functions, each with its own table.
func TestManyFunctions(t *testing.T) {
	const many = 1 << 12
	var p api.Program
	var tables []api.Table
	for i := range many {
		call := api.Expr{Op: api.OpCall, Name: "f" + strconv.Itoa((i+1)%many)}
		p.Funcs = append(p.Funcs, api.Func{Name: "f" + strconv.Itoa(i), Type: api.TypeL, Body: call})
		tables = append(tables, pack(nil, api.TypeL, api.Point(i*i/7&3)))
	}
	for i := 0; i < many; i += 313 {
		next := tables[(i+1)%many]
		if got, e := Body(p, tables, i, nil); got != cells(next)[0] || e != api.OK {
			t.Error(i, got, e)
		}
		if got, e := Round(p, tables, i); !sameTable(got, next) || e != api.OK {
			t.Error(i, got, e)
		}
		if got, e := Expr(p, tables, nil, p.Funcs[i].Body); got != cells(next)[0] || e != api.OK {
			t.Error(i, got, e)
		}
	}
}

// Of what is not sound in its shape only this is promised.
func TestOtherShapesEnd(t *testing.T) {
	parts := []api.Expr{{}, {Op: api.OpNum}, {Op: api.OpTrue}, {Op: api.OpNil}, {Op: api.OpFail}, {Op: api.OpVar, Name: "none"}, {Op: api.OpCall, Name: "none"}, {Op: api.OpCall, Name: "g"}}
	for op := api.Op(-1); op <= api.OpStrict+2; op++ {
		for n := range 5 {
			for _, part := range parts {
				for kind := range api.Type(5) {
					e := api.Expr{Op: op, Name: "g", Tail: "x", Type: kind, Args: slices.Repeat([]api.Expr{part}, n)}
					g := api.Func{Name: "g", Params: []api.Param{{Name: "x", Type: kind}}, Type: kind, Body: e}
					f := api.Func{Name: "f", Type: kind, Body: api.Expr{Op: api.OpCall, Name: "g", Args: []api.Expr{e}}}
					p := api.Program{Funcs: []api.Func{f, g}}
					tables := []api.Table{pack(nil, kind, 1), pack([]api.Type{kind}, kind, 1, 1)}
					Body(p, tables, 0, nil)
					Round(p, tables, 1)
					Expr(p, tables, nil, e)
					Expr(api.Program{}, nil, []api.Bind{{Name: "x", Type: kind, Point: 1}}, e)
				}
			}
		}
	}
}
