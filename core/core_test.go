package core

import (
	"reflect"
	"slices"
	"testing"

	"fathom/api"
	"fathom/types"
)

// expectLast holds the last function's Code and Slots against a text.
func expectLast(t *testing.T, text, code string, slots int) {
	t.Helper()
	c := coreOf(t, text)
	last := c.Supers[len(c.Supers)-1]
	if got := told(last.Code); got != code || last.Slots != slots {
		t.Errorf("%s: %s; %d, not %s; %d", text, got, last.Slots, code, slots)
	}
	if Check(c) != api.OK {
		t.Errorf("%s: not right", text)
	}
}

// P12.1

func TestExamples(t *testing.T) {
	expectLast(t, "f(x N):N=x+1;", "prim 8 (var 0) ((1+0i))", 1)
	expectLast(t, "g(x N,y L):N=x; f(x N):N=g(x*2,1:nil);", "let 1 (prim 10 (var 0) ((2+0i))) (let 2 (cons (1+0i) nil) (call 0 @1 @2))", 3)
	expectLast(t, "f(l L):L=case l of nil->nil|h:t->h:f(t);", "case 1 2 (var 0) (nil) (let 3 (call 0 @2) (cons @1 @3))", 4)
	expectLast(t, "f():L=let l L=1:l in l;", "let 0 (cons (1+0i) @0) (var 0)", 1)
	expectLast(t, "f(x N):N=strict x N=x in x;", "strict 1 (var 0) (var 1)", 2)
	expectLast(t, "f(x N,y N):N=f(f(1,x),f(y,fail N));", "let 2 (call 0 (1+0i) @0) (let 3 (let 4 (fail) (call 0 @1 @4)) (call 0 @2 @3))", 5)
}

// Each kind of expression, with the functions n and none, and with x 0, y 1, z 2.
func TestEachForm(t *testing.T) {
	for _, r := range []struct {
		kind, body, code string
		slots            int
	}{
		{"N", "7", "(7+0i)", 3}, {"N", "0", "(0+0i)", 3}, {"N", "16777216i", "(0+16777216i)", 3}, {"B", "true", "true", 3}, {"B", "false", "false", 3}, {"L", "nil", "nil", 3},
		{"N", "fail N", "fail", 3}, {"B", "fail B", "fail", 3}, {"L", "fail L", "fail", 3}, {"N", "x", "var 0", 3}, {"B", "y", "var 1", 3}, {"L", "z", "var 2", 3},
		{"N", "x+x", "prim 8 (var 0) (var 0)", 3}, {"N", "x-1", "prim 9 (var 0) ((1+0i))", 3}, {"N", "1*x", "prim 10 ((1+0i)) (var 0)", 3}, {"N", "x/fail N", "prim 11 (var 0) (fail)", 3},
		{"B", "x==1", "prim 12 (var 0) ((1+0i))", 3}, {"B", "x<1", "prim 13 (var 0) ((1+0i))", 3}, {"B", "not(y)", "prim 14 (var 1)", 3},
		{"N", "re(x)", "prim 15 (var 0)", 3}, {"N", "im(x)", "prim 16 (var 0)", 3}, {"N", "conj(x)", "prim 17 (var 0)", 3}, {"N", "1+2*3", "prim 8 ((1+0i)) (prim 10 ((2+0i)) ((3+0i)))", 3},
		{"N", "none()", "call 1", 3}, {"N", "n(x,y,z)", "call 0 @0 @1 @2", 3}, {"N", "n(2i,true,nil)", "call 0 (0+2i) true nil", 3}, {"N", "n(1,false,z)", "call 0 (1+0i) false @2", 3},
		{"N", "n(none(),y,z)", "let 3 (call 1) (call 0 @3 @1 @2)", 4}, {"N", "n(1,not(y),z)", "let 3 (prim 14 (var 1)) (call 0 (1+0i) @3 @2)", 4}, {"N", "n(x,y,fail L)", "let 3 (fail) (call 0 @0 @1 @3)", 4},
		{"N", "n(x+1,x<1,1:z)", "let 3 (prim 8 (var 0) ((1+0i))) (let 4 (prim 13 (var 0) ((1+0i))) (let 5 (cons (1+0i) @2) (call 0 @3 @4 @5)))", 6},
		{"L", "x:z", "cons @0 @2", 3}, {"L", "1:nil", "cons (1+0i) nil", 3}, {"L", "fail N:z", "let 3 (fail) (cons @3 @2)", 4}, {"L", "1:2:nil", "let 3 (cons (2+0i) nil) (cons (1+0i) @3)", 4},
		{"L", "none():x:z", "let 3 (call 1) (let 4 (cons @0 @2) (cons @3 @4))", 5}, {"L", "x:(if y then z else nil)", "let 3 (if (var 1) (var 2) (nil)) (cons @0 @3)", 4},
		{"N", "if y then x else 1", "if (var 1) (var 0) ((1+0i))", 3}, {"N", "case z of nil->1|h:t->h", "case 3 4 (var 2) ((1+0i)) (var 3)", 5}, {"L", "case z of nil->z|h:t->t", "case 3 4 (var 2) (var 2) (var 4)", 5},
		{"N", "let a N=1 in a", "let 3 ((1+0i)) (var 3)", 4}, {"N", "let a N=a in x", "let 3 (var 3) (var 0)", 4}, {"N", "strict a B=y in x", "strict 3 (var 1) (var 0)", 4},
	} {
		expectLast(t, "n(x N,y B,z L):N=x;none():N=1;f(x N,y B,z L):"+r.kind+"="+r.body+";", r.code, r.slots)
	}
}

// The order in which slots are given out.
func TestOrderOfSlots(t *testing.T) {
	for _, r := range []struct {
		text, code string
		slots      int
	}{
		{"f(l L):N=case (1:2:l) of nil->(let x N=x in x)|h:t->h;", "case 3 4 (let 1 (cons (2+0i) @0) (cons (1+0i) @1)) (let 2 (var 2) (var 2)) (var 3)", 5},
		{"f(l L):N=case l of nil->(case l of nil->0|h:t->h)|h:t->(case t of nil->h|k:t->k);", "case 3 4 (var 0) (case 1 2 (var 0) ((0+0i)) (var 1)) (case 5 6 (var 4) (var 3) (var 5))", 7},
		{"f():N=let x N=(let y N=1 in y) in let y N=x in y;", "let 0 (let 1 ((1+0i)) (var 1)) (let 2 (var 0) (var 2))", 3},
		{"f():N=strict x N=(strict y N=1 in y) in strict y N=x in y;", "strict 1 (strict 0 ((1+0i)) (var 0)) (strict 2 (var 1) (var 2))", 3},
		{"f():N=strict x N=(let y N=1 in y) in x;", "strict 1 (let 0 ((1+0i)) (var 0)) (var 1)", 2},
		{"f():N=(let x N=1 in x)+(let x N=2 in x);", "prim 8 (let 0 ((1+0i)) (var 0)) (let 1 ((2+0i)) (var 1))", 2},
		{"f(b B):N=if (let x B=b in x) then (let x N=1 in x) else (let x N=2 in x);", "if (let 1 (var 0) (var 1)) (let 2 ((1+0i)) (var 2)) (let 3 ((2+0i)) (var 3))", 4},
		{"f(x N,y N):N=f(let a N=1 in a,let a N=2 in a);", "let 2 (let 4 ((1+0i)) (var 4)) (let 3 (let 5 ((2+0i)) (var 5)) (call 0 @2 @3))", 6},
		{"f(x N,y N):N=f(f(x+1,y),y);", "let 2 (let 3 (prim 8 (var 0) ((1+0i))) (call 0 @3 @1)) (call 0 @2 @1)", 4},
		{"f():L=1+1:2+2:3+3:nil;", "let 0 (prim 8 ((1+0i)) ((1+0i))) (let 1 (let 2 (prim 8 ((2+0i)) ((2+0i))) (let 3 (let 4 (prim 8 ((3+0i)) ((3+0i))) (cons @4 nil)) (cons @2 @3))) (cons @0 @1))", 5},
	} {
		expectLast(t, r.text, r.code, r.slots)
	}
}

// Of a name the nearest binding counts, where that counts.
func TestNearestBinding(t *testing.T) {
	for _, r := range []struct {
		text, code string
		slots      int
	}{
		{"f(x N):N=let x N=x in x;", "let 1 (var 1) (var 1)", 2},
		{"f(x L):L=case x of nil->x|x:x->x;", "case 1 2 (var 0) (var 0) (var 2)", 3},
		{"f(x L):L=case x of nil->x|x:t->t;", "case 1 2 (var 0) (var 0) (var 2)", 3},
		{"f(x L):N=case x of nil->0|x:t->x;", "case 1 2 (var 0) ((0+0i)) (var 1)", 3},
		{"f(x L):L=case (case x of nil->x|x:x->x) of nil->x|h:t->x;", "case 3 4 (case 1 2 (var 0) (var 0) (var 2)) (var 0) (var 0)", 5},
		{"f(x N):N=(let x N=1 in x)+x;", "prim 8 (let 1 ((1+0i)) (var 1)) (var 0)", 2},
		{"f(x N):N=(strict x N=x in x)+x;", "prim 8 (strict 1 (var 0) (var 1)) (var 0)", 2},
		{"f(x N):N=let x N=(let x N=x in x) in x;", "let 1 (let 2 (var 2) (var 2)) (var 1)", 3},
		{"f(x N):N=strict x N=(strict x N=x in x) in strict x N=x in x;", "strict 2 (strict 1 (var 0) (var 1)) (strict 3 (var 2) (var 3))", 4},
		{"f(f N):N=let f N=f(f) in f(f);", "let 1 (call 0 @1) (call 0 @1)", 2},
		{"f(x N):N=f(let x N=1 in f(x));", "let 1 (let 2 ((1+0i)) (call 0 @2)) (call 0 @1)", 3},
		{"f(x N,l L):L=f(case l of nil->x|x:l->x,x:l);", "let 2 (case 4 5 (var 1) (var 0) (var 4)) (let 3 (cons @0 @1) (call 0 @2 @3))", 6},
	} {
		expectLast(t, r.text, r.code, r.slots)
	}
}

func TestSupers(t *testing.T) {
	got := coreOf(t, "g(x N,y L,z B):B=h();f():N=1;h():B=g(1,nil,true);k(l L):L=l;")
	lit := func(v api.Value) api.Atom { return api.Atom{Slot: -1, Lit: v} }
	want := api.Core{Supers: []api.Super{
		{Name: "g", Params: []api.Type{api.TypeN, api.TypeL, api.TypeB}, Type: api.TypeB, Slots: 3, Code: api.Code{Op: api.CodeCall, Func: 2}},
		{Name: "f", Type: api.TypeN, Code: api.Code{Op: api.CodeLit, Lit: api.Value{Type: api.TypeN, Num: 1}}},
		{Name: "h", Type: api.TypeB, Code: api.Code{Op: api.CodeCall, Atoms: []api.Atom{
			lit(api.Value{Type: api.TypeN, Num: 1}), lit(api.Value{Type: api.TypeL}), lit(api.Value{Type: api.TypeB, Bool: true}),
		}}},
		{Name: "k", Params: []api.Type{api.TypeL}, Type: api.TypeL, Slots: 1, Code: api.Code{Op: api.CodeVar}},
	}}
	if !reflect.DeepEqual(got, want) {
		t.Errorf("%v, not %v", got, want)
	}
}

// Fields that aren't named are zero, and those of parts: what told doesn't tell.
func TestWholeCode(t *testing.T) {
	got := coreOf(t, "f(x N,l L):N=case l of nil->(strict y N=conj(x) in y)|h:t->f(h/2,t);").Supers[0]
	number := api.Value{Type: api.TypeN, Num: 2}
	looked, ofNil := api.Code{Op: api.CodeVar, Slot: 1}, api.Code{Op: api.CodeStrict, Slot: 2, Args: []api.Code{
		{Op: api.CodePrim, Prim: api.OpConj, Args: []api.Code{{Op: api.CodeVar}}}, {Op: api.CodeVar, Slot: 2},
	}}
	ofCons := api.Code{Op: api.CodeLet, Slot: 5, Args: []api.Code{
		{Op: api.CodePrim, Prim: api.OpQuo, Args: []api.Code{{Op: api.CodeVar, Slot: 3}, {Op: api.CodeLit, Lit: number}}},
		{Op: api.CodeCall, Atoms: []api.Atom{{Slot: 5}, {Slot: 4}}},
	}}
	want := api.Super{Name: "f", Params: []api.Type{api.TypeN, api.TypeL}, Type: api.TypeN, Slots: 6}
	want.Code = api.Code{Op: api.CodeCase, Slot: 3, Slot2: 4, Args: []api.Code{looked, ofNil, ofCons}}
	if !reflect.DeepEqual(got, want) {
		t.Errorf("%v, not %v", got, want)
	}
}

func TestUnsound(t *testing.T) {
	for _, text := range []string{
		"f():N=true;", "f():N=1;g():B=1;", "f(x N):L=x;", "f():N=y;", "f():N=g();", "f(x N):N=f();", "f():N=1;f():N=2;", "f(x N,x N):N=x;", "f():N=strict x N=x in x;", "f():N=1+true;", "f():N=if 1 then 2 else 3;",
		"f(l L):N=case l of nil->0|h:t->t;", "f(x N):N=f(true);", "f():L=nil:nil;", "f(x N):N=f(x,x);", "f():N=let x B=1 in 2;", "f():N=fail B;", "f():N=(let x N=1 in x)+x;",
	} {
		if types.Check(programOf(t, text)) == (api.Fault{}) {
			t.Fatalf("%s is sound", text)
		}
		if c, e := Flatten(programOf(t, text)); e != api.ErrShape || c.Supers != nil {
			t.Errorf("%s: %v, %v", text, c, e)
		}
	}
}

// Of no definition layer 7 tells nothing: it is a core of no function, which is no right one.
func TestNoDefinition(t *testing.T) {
	for _, p := range []api.Program{{}, {Funcs: []api.Func{}}} {
		if c, e := Flatten(p); e != api.OK || len(c.Supers) != 0 || Check(c) != api.ErrShape {
			t.Error(c, e)
		}
	}
}

func TestByWords(t *testing.T) {
	ops := map[api.CodeOp]int{}
	for _, p := range drawPrograms(t, 121, 4000, 60) {
		got, e := Flatten(p)
		want := flatByWords(p)
		if e != api.OK || !reflect.DeepEqual(got, want) {
			t.Fatalf("%v: %v, %v, not %v", p, got, e, want)
		}
		if Check(got) != api.OK || !rightByWords(got) {
			t.Fatalf("%v: %v isn't right", p, got)
		}
		for _, s := range got.Supers {
			for _, x := range stands(s.Code, nil) {
				ops[x.code.Op]++
			}
		}
	}
	for op := api.CodeLit; op <= api.CodeFail; op++ {
		if ops[op] < 500 {
			t.Errorf("only %d codes of Op %d", ops[op], op)
		}
	}
}

// Of what is not sound in its shape only this is promised.
func TestOtherShapesEnd(t *testing.T) {
	for op := api.Op(-1); op <= api.OpStrict+2; op++ {
		for n := range 5 {
			for _, part := range []api.Op{0, api.OpNum, api.OpTrue, api.OpNil, api.OpFail, api.OpCall, api.OpLet, api.OpCase} {
				e := api.Expr{Op: op, Name: "g", Tail: "x", Type: api.TypeN, Args: slices.Repeat([]api.Expr{{Op: part, Name: "g"}}, n)}
				for kind := range api.Type(5) {
					g := api.Func{Name: "g", Params: []api.Param{{Name: "x", Type: kind}}, Type: kind, Body: e}
					f := api.Func{Name: "f", Type: kind, Body: api.Expr{Op: api.OpAdd, Args: []api.Expr{e, e}}}
					for _, funcs := range [][]api.Func{{f, g}, {g}, {f}, {g, g}} {
						c, _ := Flatten(api.Program{Funcs: funcs})
						Check(c)
					}
				}
			}
		}
	}
}
