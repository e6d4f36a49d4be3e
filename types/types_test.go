package types

import (
	"math"
	"slices"
	"strings"
	"testing"

	"fathom/api"
	"fathom/scope"
)

func expectFault(t *testing.T, text string, why api.Errno, at int) {
	t.Helper()
	if got := Check(programOf(t, text)); got != (api.Fault{Why: why, At: at}) {
		t.Errorf("%q: %v, not %v at %d", text, got, why, at)
	}
}

// P7.1

func TestCheckExamples(t *testing.T) {
	expectFault(t, "f(x N):B=x==1;", api.OK, 0)
	expectFault(t, "f(x B):N=x+1;", api.ErrType, 9)
	expectFault(t, "f(x L):N=case x of nil->0|h:t->t;", api.ErrType, 31)
	expectFault(t, "f():L=1:2;", api.ErrType, 8)
	expectFault(t, "f():N=if 1 then 2 else 3;", api.ErrType, 9)
	expectFault(t, "f():B=true==false;", api.ErrType, 6)
	expectFault(t, "f():N=g(true);g(x N):N=y;", api.ErrName, 23)
	expectFault(t, "f():N=let x L=1:x in if true then fail N else 2;", api.OK, 0)
}

func TestSound(t *testing.T) {
	for _, text := range []string{
		"f():N=1;", "f():B=true;", "f():B=false;", "f():L=nil;", "f():N=fail N;", "f():B=fail B;", "f():L=fail L;", "f(x N):N=x;", "f(x B):B=x;", "f(x L):L=x;",
		"f(x N,y B,z L):L=if y then x:z else g(z,y,x);g(z L,y B,x N):L=f(x,y,z);", "f(f N):N=f+f(f);", "f():B=not(re(1)==im(2i)+conj(3)-4*5/6);", "f():B=1<2;",
		"f(x N):B=let x B=not(x) in strict x L=if x then nil else 1:nil in case x of nil->true|x:y->x==1;",
		"f(x L):L=case x of nil->nil|x:x->x;", "f(x L):N=case x of nil->0|x:y->x;", "f(l L):N=case l of nil->0|l:m->case m of nil->l|m:l->m+f(l);",
		"f():N=strict x N=1 in strict x B=x==x in if x then 1 else 2;", "f():L=let x L=1:x in x;", "f(x B):N=let x N=x+1 in x;",
		"f(x B):N=(let x N=1 in x)+(if x then 1 else 2);", "f(x B):N=(strict x N=1 in x)+(if x then 1 else 2);", "f(h B,l L):N=(case l of nil->1|h:t->h)+(if h then 1 else 2);",
		"f(h B,l L):N=case l of nil->(if h then 1 else 2)|h:t->h;", "f(t B,l L):L=case l of nil->(if t then l else nil)|h:t->t;", "f(x B):N=strict x N=if x then 1 else 2 in x;",
		"f(l L):N=case (case l of nil->l|h:t->t) of nil->0|h:t->h;", "f():N=if if true then false else true then 1 else fail N;", "f():N=g();g():N=f();",
	} {
		expectFault(t, text, api.OK, 0)
	}
	for _, p := range []api.Program{{}, {Funcs: []api.Func{}}} {
		if got := Check(p); got != (api.Fault{}) {
			t.Errorf("of no definition: %v", got)
		}
	}
}

// samples are functions of each type, with parameters of each type.
const samples = "n(x N,y B,z L):N=1;b(x N,y B,z L):B=true;l(x N,y B,z L):L=nil;"

// sampled is expressions of each kind that has an own type, of that type, with the functions of samples and their names.
func sampled(letter string) []string {
	return map[string][]string{
		"N": {"1", "2i", "x", "fail N", "(1+2)", "(1-x)", "(x*x)", "(x/2)", "re(1)", "im(x)", "conj(2)", "n(x,y,z)"},
		"B": {"true", "false", "y", "fail B", "(1==2)", "(x<1)", "not(y)", "b(x,y,z)"},
		"L": {"nil", "z", "fail L", "(1:nil)", "(x:z)", "l(x,y,z)"},
	}[letter]
}

// Of each place where a type is wanted (each % has the wanted type behind it, and a blank): all that has one is tried there.
func TestEachPlace(t *testing.T) {
	for _, r := range []string{
		"N:%N ", "B:%B ", "L:%L ", "N:1+%N ", "N:%N +1", "N:1-%N ", "N:%N -1", "N:1*%N ", "N:%N *1", "N:1/%N ", "N:%N /1", "B:1==%N ", "B:%N ==1", "B:1<%N ", "B:%N <1",
		"B:not(%B )", "N:re(%N )", "N:im(%N )", "N:conj(%N )", "L:%N :nil", "L:1:%L ", "L:1:1:%L ", "N:n(%N ,y,z)", "N:n(x,%B ,z)", "N:n(x,y,%L )", "L:l(%N ,y,z)", "B:b(x,y,%L )",
		"N:if %B then 1 else 2", "N:if y then %N else 2", "N:if y then 1 else %N ", "B:if y then %B else y", "B:if y then y else %B ", "L:if y then %L else z", "L:if y then z else %L ", "L:if %B then z else z",
		"N:case %L of nil->1|h:t->2", "N:case z of nil->%N |h:t->2", "N:case z of nil->1|h:t->%N ", "B:case z of nil->%B |h:t->y", "L:case z of nil->z|h:t->%L ", "B:case %L of nil->y|h:t->y",
		"N:let a N=%N in 1", "N:let a B=%B in 1", "N:let a L=%L in 1", "N:let a L=nil in %N ", "B:let a L=nil in %B ", "L:let a N=1 in %L ",
		"N:strict a N=%N in 1", "N:strict a B=%B in 1", "N:strict a L=%L in 1", "N:strict a L=nil in %N ", "B:strict a L=nil in %B ", "L:strict a N=1 in %L ",
		"L:if y then case z of nil->(let a N=1 in %L )|h:t->nil else nil", "B:strict a B=(let c N=1 in if y then %B else y) in a", "N:(if y then %N else 1)+1", "L:x:(case z of nil->%L |h:t->t)",
	} {
		kind, form, _ := strings.Cut(r, ":")
		ahead, rest, _ := strings.Cut(form, "%")
		wanted, behind := rest[:1], rest[1:]
		for _, letter := range []string{"N", "B", "L"} {
			for _, part := range sampled(letter) {
				text := samples + "f(x N,y B,z L):" + kind + "=" + ahead + "(" + part + ")" + behind + ";"
				at := len(text) - len(part) - len(behind) - 2 + signOf(part)
				if letter == wanted {
					expectFault(t, text, api.OK, 0)
				} else {
					expectFault(t, text, api.ErrType, at)
				}
			}
		}
	}
}

// signOf is where in a sample's text its own place is: at its sign, if there stands one between its brackets.
func signOf(part string) int {
	if part[0] == '(' {
		return 2
	}
	return 0
}

// What counts of a name is the type of its nearest binding, where that counts.
func TestNearestBinding(t *testing.T) {
	for _, r := range []struct {
		text string
		at   int
	}{
		{"f(x B):N=let x N=1 in if x then 1 else 2;", 25}, {"f(x N):N=let x B=x==1 in 1;", 17}, {"f(x N):N=strict x B=x in 1;", 20}, {"f(x N):N=strict x B=true in x;", 28},
		{"f(x N):N=(let x B=true in 1)+(if x then 1 else 2);", 33}, {"f(x N):N=(strict x B=true in 1)+(if x then 1 else 2);", 36}, {"f(h B,l L):N=(case l of nil->1|h:t->2)+h;", 39},
		{"f(h B,l L):N=case l of nil->h|h:t->h;", 28}, {"f(h B,l L):B=case l of nil->h|h:t->h;", 35}, {"f(t B,l L):B=case l of nil->t|h:t->t;", 35}, {"f(l L):N=case l of nil->1|l:l->l;", 31},
		{"f(l L):N=case l of nil->1|h:l->l;", 31}, {"f(l L):L=case l of nil->l|l:t->l;", 31}, {"f(x L):N=let y N=(let x N=1 in x) in x;", 37}, {"f(x N,y L):N=y;g(x L,y N):N=x;", 13},
		{"f():L=let x N=1 in let x L=nil in let x B=true in x;", 50}, {"f(x N):B=g(x);g(x B):N=if x then 1 else 2;", 9}, {"f(x N):N=x;x():B=x();y():N=x();", 27},
	} {
		expectFault(t, r.text, api.ErrType, r.at)
	}
}

// Of several places the least counts, which isn't always the one that a walk meets first.
func TestLeastPlace(t *testing.T) {
	expectFault(t, "f():N=true+nil;", api.ErrType, 6)
	expectFault(t, "f():N=1+nil+true;", api.ErrType, 8)
	expectFault(t, "f():B=1+nil;", api.ErrType, 7)
	expectFault(t, "f():B=true+nil;", api.ErrType, 6)
	expectFault(t, "f():N=1:true:nil;", api.ErrType, 7)
	expectFault(t, "f():N=(1==2)==(true<nil);", api.ErrType, 8)
	expectFault(t, "f():B=(1==2)==3;", api.ErrType, 8)
	expectFault(t, "f():N=true;g():B=1;", api.ErrType, 6)
	expectFault(t, "f():N=1;g():B=1;h():L=true;", api.ErrType, 14)
	expectFault(t, "f():L=g(true,1,nil);g(x N,y B):L=nil;", api.ErrCount, 6)
	expectFault(t, "f():L=g(true,1);g(x N,y B):L=nil;", api.ErrType, 8)
	expectFault(t, "f():N=g(true,1);g(x N,y B):L=nil;", api.ErrType, 6)
	p := programOf(t, "f():N=true;g():B=1;h():L=true;")
	slices.Reverse(p.Funcs)
	if got := Check(p); got != (api.Fault{Why: api.ErrType, At: 6}) {
		t.Errorf("in another order: %v", got)
	}
}

// A fault of the names comes ahead of all of the types, wherever it stands.
func TestNamesFirst(t *testing.T) {
	expectFault(t, "f():N=true;g():N=y;", api.ErrName, 17)
	expectFault(t, "f():N=true;g():N=h();", api.ErrFunc, 17)
	expectFault(t, "f():N=true;g():N=f(1);", api.ErrCount, 17)
	expectFault(t, "f():N=true;g(x N,x N):N=1;", api.ErrTwice, 17)
	expectFault(t, "f():N=true;f():N=1;", api.ErrTwice, 11)
	expectFault(t, "f():N=true+(strict x N=x in y);", api.ErrName, 23)
	expectFault(t, "f():N=y;g():N=true;", api.ErrName, 6)
}

// Places are whatever a program has: a fault at 0 is no less one, nor one at a great place.
func TestFaultsAtAnyPlace(t *testing.T) {
	for _, at := range []int{0, 1, math.MaxInt, -1, math.MinInt} {
		for _, first := range []int{at, math.MaxInt} {
			last := math.MaxInt - first + at
			sum := api.Expr{Op: api.OpAdd, At: 3, Args: []api.Expr{{Op: api.OpTrue, At: first}, {Op: api.OpNil, At: last}}}
			p := api.Program{Funcs: []api.Func{{Name: "f", Type: api.TypeN, Body: sum}}}
			if got := Check(p); got != (api.Fault{Why: api.ErrType, At: at}) {
				t.Errorf("at %d, %d: %v", first, last, got)
			}
		}
	}
	for _, text := range []string{"f():N=true;", "f():N=g(1);g(x B):L=nil;", "f():N=true+nil;g(x N):L=x;"} {
		if got := Check(withoutPlaces(programOf(t, text))); got != (api.Fault{Why: api.ErrType}) {
			t.Errorf("%q without places: %v", text, got)
		}
	}
}

func TestCheckOfDrawn(t *testing.T) {
	seen := map[api.Errno]int{}
	for _, amiss := range []int{0, 3, 20} {
		for _, p := range drawPrograms(t, 71, 3000, 30, amiss) {
			want := faultByWords(p)
			if got := Check(p); got != want {
				t.Fatalf("%v: %v, not %v", p, got, want)
			}
			if amiss == 0 && want != (api.Fault{}) {
				t.Fatalf("%v: drawn by its types, but %v", p, want)
			}
			if got := Check(withoutPlaces(p)); got.Why != want.Why || got.At != 0 {
				t.Fatalf("%v: %v without places, not %v", p, got, want)
			}
			seen[want.Why]++
		}
	}
	if seen[api.OK] < 1000 || seen[api.ErrType] < 1000 {
		t.Errorf("%v", seen)
	}
}

// P7.2

func expectType(t *testing.T, p api.Program, env []api.Param, e api.Expr, want string) {
	t.Helper()
	why := api.OK
	if want == "" {
		why = api.ErrType
	}
	if got, e := Of(p, env, e); got != typeOf((want + " ")[0]) || e != why {
		t.Errorf("%v, %v; not %q", got, e, want)
	}
}

// envOf is names with types as parameters are written, a name as often as it is said.
func envOf(t *testing.T, text string) []api.Param {
	t.Helper()
	return programOf(t, "f("+text+"):N=1;").Funcs[0].Params
}

func TestOfExamples(t *testing.T) {
	p := programOf(t, "f():N=1;")
	expectType(t, p, envOf(t, "x L,y B"), exprOf(t, "if y then 1:nil else x"), "L")
	expectType(t, p, envOf(t, "x N,x B"), exprOf(t, "x"), "B")
	expectType(t, p, nil, exprOf(t, "1+true"), "")
}

func TestOf(t *testing.T) {
	p := programOf(t, samples+"k():N=true;")
	for _, r := range []struct{ env, e, want string }{
		{"", "x", ""}, {"y N", "x", ""}, {"x N", "x", "N"}, {"x B", "x", "B"}, {"x L", "x", "L"}, {"x N,x B,x L", "x", "L"}, {"x L,y B,x N", "x", "N"}, {"x L,y B,x N", "x:nil", "L"},
		{"x N,X B", "X", "B"}, {"", "1+x", ""}, {"", "let x N=x in x", "N"}, {"", "strict x N=x in x", ""}, {"x N", "strict x N=x in x", "N"}, {"x B", "strict x N=x in x", ""}, {"x B", "let x N=x in x", "N"},
		{"x B", "(let x N=1 in x)+x", ""}, {"x B", "(let x N=1 in x)<(if x then 1 else 2)", "B"}, {"", "(let x N=1 in x)+x", ""}, {"", "case nil of nil->h|h:t->h", ""}, {"h N", "case nil of nil->h|h:t->h", "N"},
		{"h L", "case nil of nil->h|h:t->h", ""}, {"h L", "case nil of nil->h|h:t->t", "L"}, {"h B", "case nil of nil->h|h:h->h", ""}, {"h L", "case nil of nil->h|h:h->h", "L"}, {"h N,h L", "case h of nil->h|h:h->h", "L"},
		{"", "if true then 1 else nil", ""}, {"", "if true then nil else 1", ""}, {"", "if 1 then 1 else 1", ""}, {"", "if true then true else fail B", "B"}, {"", "if true then fail L else fail N", ""},
		{"", "case nil of nil->1|h:t->true", ""}, {"", "case nil of nil->true|h:t->h==1", "B"}, {"", "case 1 of nil->1|h:t->1", ""}, {"", "let x L=1 in 1", ""}, {"", "let x L=nil in true", "B"}, {"", "strict x L=1 in 1", ""},
		{"", "strict x B=true in 1:nil", "L"}, {"", "f()", ""}, {"", "k()", "N"}, {"", "k(1)", ""}, {"", "n()", ""}, {"", "n(1,true)", ""}, {"", "n(1,true,nil)", "N"}, {"", "b(1,true,nil)", "B"}, {"", "l(1,true,nil)", "L"},
		{"", "l(1,true,nil,1)", ""}, {"", "l(1,true,1)", ""}, {"", "l(k(),b(k(),not(true),nil),l(1,1==1,nil))", "L"}, {"", "l(1,true,l(1,1,nil))", ""}, {"n B", "n(1,n,nil)", "N"}, {"k B", "k", "B"}, {"", "k", ""},
		{"", "if f() then 1 else 2", ""}, {"", "let x N=f() in 2", ""}, {"", "let x N=k(1) in 2", ""}, {"", "let x N=y in 2", ""}, {"x N", "1:2:x:nil", "L"}, {"x N", "1:2:x", ""},
	} {
		if got, e := Of(p, envOf(t, r.env), exprOf(t, r.e)); got != typeOf((r.want + " ")[0]) || (e == api.OK) != (r.want != "") || e != api.OK && e != api.ErrType {
			t.Errorf("%s within %s: %v, %v; not %q", r.e, r.env, got, e, r.want)
		}
	}
}

func TestOfEachSample(t *testing.T) {
	p, env := programOf(t, samples), envOf(t, "x N,y B,z L")
	for _, letter := range []string{"N", "B", "L"} {
		for _, part := range sampled(letter) {
			for _, form := range []string{"%", "if y then % else %", "case z of nil->%|h:t->%", "let a N=1 in %", "strict a L=z in %", "if y then (let a N=1 in %) else (case z of nil->%|h:t->(strict a B=y in %))"} {
				expectType(t, p, env, exprOf(t, strings.ReplaceAll(form, "%", part)), letter)
			}
			for _, form := range []string{"%+true", "if % then 1 else nil", "case % of nil->1|h:t->t", "let a N=% in q", "not(%:%)"} {
				expectType(t, p, env, exprOf(t, strings.ReplaceAll(form, "%", part)), "")
			}
		}
	}
}

// No type but the three is one, also where the names that are handed in have others.
func TestOfOtherTypes(t *testing.T) {
	for _, other := range []api.Type{0, 4, -1, math.MaxInt} {
		env := []api.Param{{Name: "x", Type: other}}
		for _, e := range []string{"x", "x+1", "if x then 1 else 2", "case x of nil->1|h:t->2", "if true then x else x", "f(x)"} {
			expectType(t, programOf(t, "f(x N):N=x;"), env, exprOf(t, e), "")
		}
		expectType(t, api.Program{}, env, exprOf(t, "1"), "N")
		expectType(t, api.Program{}, append(env, api.Param{Name: "x", Type: api.TypeB}), exprOf(t, "x"), "B")
	}
}

// Whether the program's bodies are sound is not asked, nor where its functions stand.
func TestOfAnyProgram(t *testing.T) {
	for _, text := range []string{"f(x L):B=true;g():N=1;", "g():N=nil;f(x L):B=x+true;", "h():N=true;g():N=h();f(x L):B=f(x);"} {
		p := programOf(t, text)
		expectType(t, p, nil, exprOf(t, "f(nil)"), "B")
		expectType(t, p, nil, exprOf(t, "f(g())"), "")
		expectType(t, p, nil, exprOf(t, "g():nil"), "L")
	}
	expectType(t, api.Program{}, nil, exprOf(t, "1"), "N")
	expectType(t, api.Program{}, nil, exprOf(t, "f()"), "")
}

func expectOfByWords(t *testing.T, p api.Program, env []api.Param, e api.Expr) bool {
	t.Helper()
	got, why := Of(p, env, e)
	all := typesByWords(p, env, e)
	switch {
	case len(all) > 1:
		t.Fatalf("%v: the types %v", e, all)
	case len(all) == 1 && (got != all[0] || why != api.OK), len(all) == 0 && (got != 0 || why != api.ErrType):
		t.Fatalf("%v within %v: %v, %v; not %v", e, env, got, why, all)
	}
	return len(all) == 1
}

func TestOfDrawn(t *testing.T) {
	typed, untyped := 0, 0
	for _, amiss := range []int{0, 5} {
		for _, p := range drawPrograms(t, 72, 100, 30, amiss) {
			for i, f := range p.Funcs {
				envs := [][]api.Param{f.Params, nil, p.Funcs[0].Params, slices.Concat(f.Params, envOf(t, "y N,x L,x B,t1 N,aa L"))}
				for _, x := range places(f.Body, nil) {
					for _, env := range envs {
						if expectOfByWords(t, p, env, x.e) {
							typed++
						} else {
							untyped++
						}
					}
				}
				less := api.Program{Funcs: p.Funcs[:i]}
				expectOfByWords(t, less, f.Params, f.Body)
			}
		}
	}
	if typed < 5000 || untyped < 5000 {
		t.Errorf("%d typed, %d not", typed, untyped)
	}
}

// P7.3

func TestSoundByBodies(t *testing.T) {
	sound, unsound := 0, 0
	for _, amiss := range []int{0, 2, 10} {
		for _, p := range drawPrograms(t, 73, 1500, 25, amiss) {
			if scope.Check(p) != (api.Fault{}) {
				t.Fatalf("%v: drawn with a wrong name", p)
			}
			all := true
			for _, f := range p.Funcs {
				got, e := Of(p, f.Params, f.Body)
				all = all && got == f.Type && e == api.OK
			}
			if all != (Check(p) == (api.Fault{})) {
				t.Fatalf("%v: %v, but its bodies say %v", p, Check(p), all)
			}
			if all {
				sound++
			} else {
				unsound++
			}
		}
	}
	if sound < 500 || unsound < 500 {
		t.Errorf("%d sound, %d not", sound, unsound)
	}
}

// A body may have a type, but not its function's.
func TestBodyOfOtherType(t *testing.T) {
	for _, r := range []struct {
		text, body string
		at         int
	}{
		{"f():N=true;", "B", 6}, {"f():B=1:nil;", "L", 7}, {"f():L=if true then 1 else 2;", "N", 19}, {"f(x L):N=x;", "L", 9}, {"f():B=let x N=1 in x+x;", "N", 20}, {"f(x N):B=f(x)==1;", "", 9}, {"f():L=g();g():N=1;", "N", 6},
	} {
		p := programOf(t, r.text)
		expectType(t, p, p.Funcs[0].Params, p.Funcs[0].Body, r.body)
		expectFault(t, r.text, api.ErrType, r.at)
	}
}
