package scope

import (
	"reflect"
	"slices"
	"strconv"
	"testing"

	"fathom/api"
	"fathom/show"
	"fathom/trial"
)

// withoutPlaces is a program with each place 0, in new memory.
func withoutPlaces(p api.Program) api.Program {
	var bare api.Program
	for _, f := range p.Funcs {
		f.Params, f.Body, f.At = slices.Clone(f.Params), bareExpr(f.Body), 0
		for i := range f.Params {
			f.Params[i].At = 0
		}
		bare.Funcs = append(bare.Funcs, f)
	}
	return bare
}

func bareExpr(e api.Expr) api.Expr {
	args := make([]api.Expr, len(e.Args))
	for i, x := range e.Args {
		args[i] = bareExpr(x)
	}
	e.Args, e.At = args, 0
	return e
}

// A program means the same names however it is written.
func TestPlacesAlone(t *testing.T) {
	for _, p := range drawPrograms(t, 64, 1000, 40) {
		text := show.Program(p)
		again := programOf(t, text)
		if (Check(p).Why == api.OK) != (Check(again).Why == api.OK) {
			t.Fatalf("%q: %v, then %v", text, Check(p), Check(again))
		}
		for i, f := range again.Funcs {
			old := p.Funcs[i]
			if !slices.Equal(Names(f), Names(old)) || !slices.Equal(Free(f.Body), Free(old.Body)) || Size(f.Body) != Size(old.Body) || Nest(f.Body) != Nest(old.Body) {
				t.Fatalf("%q: other answers for %v", text, old)
			}
		}
	}
}

// Free names are bound by a let of each around, and no others are left or come; a strict leaves those of its first part.
func TestBindersTakeAway(t *testing.T) {
	one := api.Expr{Op: api.OpNum, Num: 1}
	for _, p := range drawPrograms(t, 65, 2000, 30) {
		e := p.Funcs[0].Body
		free := Free(e)
		for _, name := range []string{"x", "y", "Z", "other"} {
			without := slices.DeleteFunc(slices.Clone(free), func(x string) bool { return x == name })
			for _, r := range []struct {
				around api.Expr
				want   []string
				uses   int
			}{
				{api.Expr{Op: api.OpLet, Name: name, Type: api.TypeN, Args: []api.Expr{e, one}}, without, 0},
				{api.Expr{Op: api.OpLet, Name: name, Type: api.TypeN, Args: []api.Expr{one, e}}, without, 0},
				{api.Expr{Op: api.OpStrict, Name: name, Type: api.TypeN, Args: []api.Expr{e, one}}, free, 1},
				{api.Expr{Op: api.OpStrict, Name: name, Type: api.TypeN, Args: []api.Expr{one, e}}, without, 0},
				{api.Expr{Op: api.OpCase, Name: name, Tail: "none", Args: []api.Expr{e, one, one}}, free, 1},
				{api.Expr{Op: api.OpCase, Name: name, Tail: "none", Args: []api.Expr{one, e, one}}, free, 1},
				{api.Expr{Op: api.OpCase, Name: name, Tail: "none", Args: []api.Expr{one, one, e}}, without, 0},
				{api.Expr{Op: api.OpCase, Name: "none", Tail: name, Args: []api.Expr{one, e, e}}, free, 1},
				{api.Expr{Op: api.OpCase, Name: "none", Tail: name, Args: []api.Expr{one, one, e}}, without, 0},
				{api.Expr{Op: api.OpCase, Name: name, Tail: name, Args: []api.Expr{e, e, e}}, free, 2},
				{api.Expr{Op: api.OpCall, Name: name, Args: []api.Expr{e, e, e}}, free, 3},
			} {
				if got := Free(r.around); !slices.Equal(got, r.want) {
					t.Fatalf("%v: %q, not %q", r.around, got, r.want)
				}
				if got, want := Uses(r.around, name), r.uses*Uses(e, name); got != want {
					t.Fatalf("%v: %d of %s, not %d", r.around, got, name, want)
				}
			}
		}
	}
}

// A definition of which each free variable is made a parameter has no variable that means nothing.
func TestParametersBindWhatIsFree(t *testing.T) {
	for _, p := range drawPrograms(t, 66, 2000, 30) {
		f := api.Func{Name: "own", Type: api.TypeN, Body: p.Funcs[0].Body}
		for _, name := range Free(f.Body) {
			f.Params = append(f.Params, api.Param{Name: name, Type: api.TypeN})
		}
		if got := Check(api.Program{Funcs: []api.Func{f}}); got.Why == api.ErrName || got.Why == api.ErrTwice {
			t.Fatalf("%v: %v", f, got)
		}
		if len(f.Params) == 0 {
			continue
		}
		f.Params = f.Params[1:]
		if got := Check(api.Program{Funcs: []api.Func{f}}); got.Why == api.OK {
			t.Fatalf("%v: a parameter is missing", f)
		}
	}
}

// Names that Fresh answers for a definition's names don't stand in it.
func TestFreshOfNames(t *testing.T) {
	for _, p := range drawPrograms(t, 67, 500, 30) {
		taken := Names(p.Funcs[0])
		fresh, e := Fresh(taken, 5)
		if e != api.OK || len(fresh) != 5 {
			t.Fatalf("%q: %q, %v", taken, fresh, e)
		}
		for _, name := range fresh {
			if slices.Contains(taken, name) || Uses(p.Funcs[0].Body, name) != 0 {
				t.Fatalf("%q: %s is taken", taken, name)
			}
		}
	}
}

// nested is an expression of that Op whose part at is another one, and so on; each binds a name of its own, the innermost
// one n0, which is the variable that stands at all other places.
func nested(op api.Op, at, of, deep int) api.Expr {
	variable := api.Expr{Op: api.OpVar, Name: "n0", At: 7}
	e := variable
	for i := range deep {
		outer := api.Expr{Op: op, Args: slices.Repeat([]api.Expr{variable}, of)}
		switch op {
		case api.OpLet, api.OpStrict:
			outer.Name, outer.Type = "n"+strconv.Itoa(i), api.TypeN
		case api.OpCase:
			outer.Name, outer.Tail = "n"+strconv.Itoa(i), "m"+strconv.Itoa(i)
		}
		outer.Args[at] = e
		e = outer
	}
	return e
}

// Parts may be nested 2^16 deep, with a binding each, and each answer takes time that grows with their number alone.
func TestDeepExpressions(t *testing.T) {
	const deep = 1<<16 - 1
	for _, r := range []struct {
		op                    api.Op
		at, of                int
		uses, names, nestings int
	}{
		{api.OpLet, 0, 2, deep - 1, deep + 1, deep}, {api.OpLet, 1, 2, deep - 1, deep + 1, deep},
		{api.OpStrict, 0, 2, deep, deep + 1, deep}, {api.OpStrict, 1, 2, deep, deep + 1, deep},
		{api.OpCase, 0, 3, 2 * deep, 2*deep + 1, deep}, {api.OpCase, 1, 3, 2 * deep, 2*deep + 1, deep}, {api.OpCase, 2, 3, 2 * deep, 2*deep + 1, deep},
		{api.OpAdd, 0, 2, deep + 1, 2, 0}, {api.OpCons, 1, 2, deep + 1, 2, 0}, {api.OpRe, 0, 1, 1, 2, 0}, {api.OpIf, 2, 3, 2*deep + 1, 2, 0},
	} {
		e := nested(r.op, r.at, r.of, deep)
		f := api.Func{Name: "f", Type: api.TypeN, Body: e}
		if size, nest := Size(e), Nest(e); size != deep*r.of+1 || nest != r.nestings {
			t.Errorf("%d at %d: %d, %d", r.op, r.at, size, nest)
		}
		if free, uses, names := Free(e), Uses(e, "n0"), Names(f); !slices.Equal(free, []string{"n0"}) || uses != r.uses || len(names) != r.names {
			t.Errorf("%d at %d: %q, %d uses, %d names", r.op, r.at, free, uses, len(names))
		}
		if got := Check(api.Program{Funcs: []api.Func{f}}); got != (api.Fault{Why: api.ErrName, At: 7}) {
			t.Errorf("%d at %d: %v", r.op, r.at, got)
		}
		f.Params = []api.Param{{Name: "n0", Type: api.TypeN}}
		if got := Check(api.Program{Funcs: []api.Func{f}}); got != (api.Fault{}) {
			t.Errorf("%d at %d, with a parameter: %v", r.op, r.at, got)
		}
	}
}

// Of what is not sound in its shape only this is promised.
func TestOtherShapesEnd(t *testing.T) {
	for op := api.Op(-1); op <= api.OpStrict+2; op++ {
		for n := range 5 {
			e := api.Expr{Op: op, Type: 7, Args: make([]api.Expr, n)}
			e = api.Expr{Op: api.OpMul, Args: []api.Expr{e, e, e}}
			f := api.Func{Body: e, Type: -1, Params: []api.Param{{}, {Type: 9}}}
			Check(api.Program{Funcs: []api.Func{f, {}, f}})
			Names(f)
			Free(e)
			Uses(e, "")
			Size(e)
			Nest(e)
		}
	}
}

// P6.5

func TestWhatIsHandedInStays(t *testing.T) {
	for _, drawn := range drawPrograms(t, 68, 500, 40) {
		p := trial.RoomyProgram(drawn)
		before := trial.WholeProgram(p)
		if got, want := Check(p), Check(drawn); got != want {
			t.Fatalf("%v: %v hangs on spare room, is not %v", drawn, got, want)
		}
		for i, f := range p.Funcs {
			g := drawn.Funcs[i]
			if !slices.Equal(Names(f), Names(g)) || !slices.Equal(Free(f.Body), Free(g.Body)) || Uses(f.Body, "x") != Uses(g.Body, "x") || Uses(f.Body, "spare") != 0 {
				t.Fatalf("%v: names hang on spare room", g)
			}
			if Size(f.Body) != Size(g.Body) || Nest(f.Body) != Nest(g.Body) {
				t.Fatalf("%v: its size or nesting hangs on spare room", g)
			}
		}
		if !reflect.DeepEqual(trial.WholeProgram(p), before) {
			t.Fatalf("%v: no longer %v", trial.WholeProgram(p), before)
		}
	}
	taken := trial.Roomy([]string{"t3", "t1", "x"}, "t2")
	before := slices.Clone(taken[:cap(taken)])
	if got, e := Fresh(taken, 2); e != api.OK || !slices.Equal(got, []string{"t2", "t4"}) || !slices.Equal(taken[:cap(taken)], before) {
		t.Errorf("%q, %v; %q", got, e, taken[:cap(taken)])
	}
}

// overwrite fills an answer, its spare room too.
func overwrite(list []string) {
	for i := range list[:cap(list)] {
		list[:cap(list)][i] = "overwritten"
	}
}

func TestAnswersAreNew(t *testing.T) {
	p := programOf(t, "f(x N,y N):N=let a N=x in case b of nil->g(c)|h:t->y;")
	before := trial.WholeProgram(p)
	f := p.Funcs[0]
	taken := []string{"t2", "x"}
	for range 2 {
		free, names := Free(f.Body), Names(f)
		fresh, _ := Fresh(taken, 3)
		expectNames(t, "Free", free, "b c x y")
		expectNames(t, "Names", names, "a b c f g h t x y")
		expectNames(t, "Fresh", fresh, "t1 t3 t4")
		overwrite(free)
		overwrite(names)
		overwrite(fresh)
	}
	if !reflect.DeepEqual(trial.WholeProgram(p), before) || !slices.Equal(taken, []string{"t2", "x"}) {
		t.Errorf("%v, %q", p, taken)
	}
}

// What is asked hangs on nothing that was asked before.
func TestCallsAreApart(t *testing.T) {
	good := programOf(t, "f(x N):N=g(x);g(y N):N=let z N=y in z;")
	for _, bad := range []string{"f(x N):N=y;", "f():N=1;f():N=1;", "g():N=let z N=1 in y;", "f(x N,x N):N=g(x);"} {
		p := programOf(t, bad)
		if Check(p) == (api.Fault{}) || Check(good) != (api.Fault{}) || Check(p) == (api.Fault{}) {
			t.Errorf("%q: %v, %v", bad, Check(p), Check(good))
		}
	}
	if _, e := Fresh(nil, -1); e != api.ErrRange {
		t.Error(e)
	}
	if got, e := Fresh(nil, 1); e != api.OK || !slices.Equal(got, []string{"t1"}) {
		t.Error(got, e)
	}
}
