package types

import (
	"reflect"
	"slices"
	"strconv"
	"testing"

	"fathom/api"
	"fathom/show"
	"fathom/trial"
)

// withoutPlaces is a program with each place 0, in new memory.
func withoutPlaces(p api.Program) api.Program {
	var bare api.Program
	for _, f := range p.Funcs {
		f.Params, f.Body, f.At = slices.Clone(f.Params), bareExpr(f.Body), 0
		for i := range f.Params {
			f.Params[i].At = 0
		}
		bare.Funcs = append(bare.Funcs, f)
	}
	return bare
}

func bareExpr(e api.Expr) api.Expr {
	args := make([]api.Expr, len(e.Args))
	for i, x := range e.Args {
		args[i] = bareExpr(x)
	}
	e.Args, e.At = args, 0
	return e
}

// A program is sound or not however it is written.
func TestPlacesAlone(t *testing.T) {
	for _, p := range drawPrograms(t, 74, 1000, 40, 3) {
		text := show.Program(p)
		again := programOf(t, text)
		if Check(p).Why != Check(again).Why {
			t.Fatalf("%q: %v, then %v", text, Check(p), Check(again))
		}
		for i, f := range again.Funcs {
			old := p.Funcs[i]
			was, why := Of(p, old.Params, old.Body)
			if is, e := Of(again, f.Params, f.Body); is != was || e != why {
				t.Fatalf("%q: %v, %v, then %v, %v", text, was, why, is, e)
			}
		}
	}
}

// Names of an environment that aren't free in an expression, or are hidden by later ones, count for nothing.
func TestOtherNamesCountForNothing(t *testing.T) {
	for _, p := range drawPrograms(t, 75, 500, 30, 2) {
		for _, f := range p.Funcs {
			unused := append(slices.Clone(f.Params), api.Param{Name: "unused", Type: api.TypeB})
			hidden := slices.Concat(f.Params, f.Params)
			for i := range f.Params {
				hidden[i].Type = api.TypeN + api.TypeL - hidden[i].Type
			}
			want, why := Of(p, f.Params, f.Body)
			for _, env := range [][]api.Param{unused, hidden, slices.Concat(hidden, unused)} {
				if got, e := Of(p, env, f.Body); got != want || e != why {
					t.Fatalf("%v within %v: %v, %v; not %v, %v", f.Body, env, got, e, want, why)
				}
			}
		}
	}
}

// A let gives its name the type that it has by an environment's last name, whatever that had.
func TestLetIsAsTheLastName(t *testing.T) {
	values := []string{"", "1", "true", "nil"}
	for _, p := range drawPrograms(t, 77, 300, 30, 2) {
		for _, f := range p.Funcs {
			for _, kind := range []api.Type{api.TypeN, api.TypeB, api.TypeL} {
				let := api.Expr{Op: api.OpLet, Name: "x", Type: kind, Args: []api.Expr{exprOf(t, values[kind]), f.Body}}
				want, why := Of(p, append(slices.Clone(f.Params), api.Param{Name: "x", Type: kind}), f.Body)
				if got, e := Of(p, f.Params, let); got != want || e != why {
					t.Fatalf("%v: %v, %v; not %v, %v", let, got, e, want, why)
				}
			}
		}
	}
}

// nested is an expression of that Op whose part at is another one, and so on; each binds a name of its own; the others of
// its parts are of the types that are wanted, so that all of it is of that type.
func nested(t *testing.T, op api.Op, at, deep int, letter byte) api.Expr {
	t.Helper()
	leaf := map[byte]string{'N': "n", 'B': "b", 'L': "l"}
	e := exprOf(t, leaf[letter])
	form := map[api.Op]string{
		api.OpLet: "let x " + string(letter) + "=% in %", api.OpStrict: "strict x " + string(letter) + "=% in %", api.OpCase: "case l of nil->%|h:t->%", api.OpIf: "if b then % else %",
		api.OpAdd: "n+n", api.OpCons: "n:l", api.OpNot: "not(b)", api.OpConj: "conj(n)", api.OpCall: "f(n,b,l)",
	}[op]
	text := ""
	for _, c := range form {
		if c == '%' {
			text += leaf[letter]
			continue
		}
		text += string(c)
	}
	pattern := exprOf(t, text)
	for i := range deep {
		outer := pattern
		outer.Args = slices.Clone(pattern.Args)
		switch op {
		case api.OpLet, api.OpStrict:
			outer.Name = "x" + strconv.Itoa(i)
		case api.OpCase:
			outer.Name, outer.Tail = "x"+strconv.Itoa(i), "y"+strconv.Itoa(i)
		}
		outer.Args[at] = e
		e = outer
	}
	return e
}

// Parts may be nested 2^16 deep, with a binding each, and each answer takes time that grows with their number alone.
func TestDeepExpressions(t *testing.T) {
	const deep = 1<<16 - 1
	for _, r := range []struct {
		op     api.Op
		at     int
		letter byte
	}{
		{api.OpLet, 0, 'N'}, {api.OpLet, 1, 'L'}, {api.OpStrict, 0, 'B'}, {api.OpStrict, 1, 'N'}, {api.OpCase, 0, 'L'}, {api.OpCase, 1, 'N'}, {api.OpCase, 2, 'B'},
		{api.OpIf, 0, 'B'}, {api.OpIf, 1, 'L'}, {api.OpIf, 2, 'N'}, {api.OpAdd, 0, 'N'}, {api.OpAdd, 1, 'N'}, {api.OpCons, 1, 'L'}, {api.OpNot, 0, 'B'}, {api.OpConj, 0, 'N'}, {api.OpCall, 1, 'B'},
	} {
		e := nested(t, r.op, r.at, deep, r.letter)
		f := api.Func{Name: "f", Params: envOf(t, "n N,b B,l L"), Type: typeOf(r.letter), Body: e}
		p := api.Program{Funcs: []api.Func{f}}
		if got := Check(p); got != (api.Fault{}) {
			t.Errorf("%d at %d: %v", r.op, r.at, got)
		}
		expectType(t, p, f.Params, e, string(r.letter))
		// With the names of other types the innermost part doesn't fit.
		p.Funcs[0].Params = envOf(t, "n L,b N,l B")
		if got := Check(p); got.Why != api.ErrType {
			t.Errorf("%d at %d, other names: %v", r.op, r.at, got)
		}
		expectType(t, p, p.Funcs[0].Params, e, "")
	}
}

// A chain of functions, each of which hands on to the next.
func TestManyFunctions(t *testing.T) {
	const many = 1 << 15
	p := api.Program{}
	for i := range many {
		body := api.Expr{Op: api.OpCall, Name: "f" + strconv.Itoa(i+1), Args: []api.Expr{{Op: api.OpVar, Name: "x", At: 2*i + 1}}, At: 2 * i}
		p.Funcs = append(p.Funcs, api.Func{Name: "f" + strconv.Itoa(i), Params: []api.Param{{Name: "x", Type: api.TypeL}}, Type: api.TypeB, Body: body})
	}
	p.Funcs[many-1].Body = api.Expr{Op: api.OpTrue, At: 2 * many}
	if got := Check(p); got != (api.Fault{}) {
		t.Error(got)
	}
	p.Funcs[many-1].Type = api.TypeN
	if got := Check(p); got != (api.Fault{Why: api.ErrType, At: 2 * (many - 2)}) {
		t.Error(got)
	}
}

// Of what is not sound in its shape only this is promised.
func TestOtherShapesEnd(t *testing.T) {
	for op := api.Op(-1); op <= api.OpStrict+2; op++ {
		for n := range 5 {
			e := api.Expr{Op: op, Type: 7, Args: make([]api.Expr, n)}
			e = api.Expr{Op: api.OpMul, Args: []api.Expr{e, e, e}}
			f := api.Func{Body: e, Type: -1, Params: []api.Param{{}, {Type: 9}}}
			p := api.Program{Funcs: []api.Func{f, {}, f}}
			Check(p)
			Of(p, f.Params, e)
			Of(p, nil, e.Args[0])
			f = api.Func{Body: e.Args[0], Name: "g", Params: []api.Param{{Name: "x"}}}
			Check(api.Program{Funcs: []api.Func{f}})
		}
	}
	twice := programOf(t, "f():N=1;f(x N):L=nil;")
	expectType(t, twice, nil, exprOf(t, "f()"), "N")
}

// P7.4

func roomyParams(params []api.Param) []api.Param {
	return trial.Roomy(params, api.Param{Name: "x", Type: api.TypeB, At: -1})
}

func TestWhatIsHandedInStays(t *testing.T) {
	for _, drawn := range drawPrograms(t, 76, 500, 40, 3) {
		p := trial.RoomyProgram(drawn)
		before := trial.WholeProgram(p)
		if got, want := Check(p), Check(drawn); got != want {
			t.Fatalf("%v: %v hangs on spare room, is not %v", drawn, got, want)
		}
		for i, f := range drawn.Funcs {
			env := roomyParams(append(slices.Clone(f.Params), api.Param{Name: "y", Type: api.TypeN}, api.Param{Name: "y", Type: api.TypeL}))
			old := slices.Clone(env[:cap(env)])
			want, why := Of(drawn, slices.Clone(env), f.Body)
			if got, e := Of(p, env, p.Funcs[i].Body); got != want || e != why {
				t.Fatalf("%v: %v, %v hangs on spare room, is not %v, %v", f, got, e, want, why)
			}
			if !slices.Equal(env[:cap(env)], old) {
				t.Fatalf("%v: no longer %v", env[:cap(env)], old)
			}
		}
		if !reflect.DeepEqual(trial.WholeProgram(p), before) {
			t.Fatalf("%v: no longer %v", trial.WholeProgram(p), before)
		}
	}
}

// What is asked hangs on nothing that was asked before.
func TestCallsAreApart(t *testing.T) {
	good := programOf(t, "f(x N):N=g(x);g(y N):N=let z N=y in z;")
	for _, text := range []string{"f(x N):N=true;", "f(x B):N=g(x);g(z B):B=z;", "g():N=let z B=true in z;", "f():N=y;"} {
		bad := programOf(t, text)
		if Check(bad) == (api.Fault{}) || Check(good) != (api.Fault{}) || Check(bad) == (api.Fault{}) {
			t.Errorf("%q: %v, %v", text, Check(bad), Check(good))
		}
	}
	x := exprOf(t, "x")
	for range 2 {
		expectType(t, good, envOf(t, "x L"), x, "L")
		expectType(t, good, nil, x, "")
		expectType(t, good, envOf(t, "x B"), x, "B")
	}
}
