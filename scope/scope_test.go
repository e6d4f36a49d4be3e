package scope

import (
	"math"
	"slices"
	"strconv"
	"strings"
	"testing"

	"fathom/api"
)

func expectFault(t *testing.T, text string, why api.Errno, at int) {
	t.Helper()
	if got := Check(programOf(t, text)); got != (api.Fault{Why: why, At: at}) {
		t.Errorf("%q: %v, not %v at %d", text, got, why, at)
	}
}

func expectNames(t *testing.T, what string, got []string, want string) {
	t.Helper()
	if !slices.Equal(got, strings.Fields(want)) {
		t.Errorf("%s: %q, not %q", what, got, strings.Fields(want))
	}
}

// P6.1

func TestCheckExamples(t *testing.T) {
	expectFault(t, "f(x N):N=x;f():N=y;", api.ErrTwice, 11)
	expectFault(t, "f(x N,x L):N=z+g();", api.ErrTwice, 6)
	expectFault(t, "f(x N):N=f(1,2);", api.ErrCount, 9)
	expectFault(t, "f():N=strict x N=x in x;", api.ErrName, 17)
	expectFault(t, "f():N=let x N=x in x;", api.OK, 0)
}

func TestNothingWrong(t *testing.T) {
	for _, text := range []string{
		"f():N=1;", "f(x N):N=x;", "f(x N,y B,z L):N=x+y+z;", "f(f N):N=f+f(f);", "f(x N):N=g(x);g(x N):N=f(x);", "f():N=g(1,2,3,4);g(a N,b N,c N,d N):N=1;",
		"f(x N):N=let x N=x in strict x N=x in case x of nil->x|x:x->x;", "f():N=case nil of nil->1|h:t->h+t;", "f(g N):N=g;g():N=f(1);",
		"f():N=let x N=1 in let y N=x in strict z N=x+y in case x:y of nil->z|h:t->x+y+z+h+t;", "f(l L):N=case l of nil->1|l:m->case m of nil->l|a:b->l+a+b;",
		"f():N=let x N=let y N=x+y in x+y in x;", "f():B=not(re(im(conj(fail N))))==true;", "f():B=false<3i;", "f(t N):N=case nil of nil->t|h:h->t;",
		"f(x N):N=1;g(x N):N=1;h(x N,f N):N=f(x)+g(f);", "f():N=if true then nil else 3i;",
	} {
		expectFault(t, text, api.OK, 0)
	}
	for _, p := range []api.Program{{}, {Funcs: []api.Func{}}} {
		if got := Check(p); got != (api.Fault{}) {
			t.Errorf("of no definition: %v", got)
		}
	}
}

func TestTwice(t *testing.T) {
	expectFault(t, "f():N=1;f():N=1;", api.ErrTwice, 8)
	expectFault(t, "f():N=1;g():N=1;f(x N):L=nil;g():N=1;", api.ErrTwice, 16)
	expectFault(t, "g():N=1;f():N=1;h():N=1; f():N=1;f():N=1;", api.ErrTwice, 25)
	expectFault(t, "f(x N,y N,x N,y N):N=1;", api.ErrTwice, 10)
	expectFault(t, "f(x N,y N,y N,x N):N=1;", api.ErrTwice, 10)
	expectFault(t, "f(x N,x N,x N):N=1;", api.ErrTwice, 6)
	expectFault(t, "f(x N):N=1;g(x N,f N,g N,f N):N=1;", api.ErrTwice, 25)
	expectFault(t, "f(f N):N=1;f():N=1;", api.ErrTwice, 11)
	expectFault(t, "f(x N):N=1;F(x N,X N):N=1;", api.OK, 0)
}

func TestNoSuchVariable(t *testing.T) {
	for _, r := range []struct {
		body string
		at   int
	}{
		{"x", 0}, {"1+x", 2}, {"x+y", 0}, {"f", 0}, {"g(f)", 2}, {"g(g(1)+y)", 7}, {"if a then b else c", 3}, {"if p then b else c", 10}, {"if p then p else c", 17},
		{"not(a)", 4}, {"re(a)", 3}, {"im(a)", 3}, {"conj(a)", 5}, {"p-a", 2}, {"p*a", 2}, {"p/a", 2}, {"p==a", 3}, {"p<a", 2}, {"p:a", 2},
		{"(let x N=1 in x)+x", 17}, {"x+(let x N=1 in x)", 0}, {"(strict x N=1 in x)+x", 20}, {"let x N=y in x", 8}, {"let x N=1 in y", 13},
		{"strict x N=x in x", 11}, {"strict x N=1 in y", 16}, {"strict x N=(strict x N=1 in x)+x in x", 31}, {"let x N=(strict y N=x in y) in y", 31},
		{"case h of nil->1|h:t->1", 5}, {"case t of nil->1|h:t->1", 5}, {"case p of nil->h|h:t->1", 15}, {"case p of nil->t|h:t->1", 15}, {"case p of nil->1|h:t->x", 22},
		{"(case p of nil->1|h:t->h+t)+h", 28}, {"(case p of nil->1|h:t->h+t)+t", 28}, {"case (case p of nil->1|h:t->h) of nil->1|a:b->h", 46},
		{"case p of nil->1|h:h->h+t", 24}, {"let x N=(let y N=1 in y) in y", 28}, {"let P N=1 in p+P+pp", 17},
	} {
		// p is a parameter, and the bodies stand behind 16 bytes.
		expectFault(t, "f(p N, q N):N = "+r.body+";g(x N):N=1;", api.ErrName, 16+r.at)
	}
}

// A function's parameters count in no other one's body, and functions are no variables, nor variables functions.
func TestNamesOfOtherKinds(t *testing.T) {
	expectFault(t, "f(x N):N=1;g():N=x;", api.ErrName, 17)
	expectFault(t, "g():N=x;f(x N):N=1;", api.ErrName, 6)
	expectFault(t, "f():N=let x N=1 in x;g():N=x;", api.ErrName, 27)
	expectFault(t, "f():N=g;g():N=1;", api.ErrName, 6)
	expectFault(t, "f(x N):N=x();", api.ErrFunc, 9)
	expectFault(t, "f():N=let g N=1 in g();", api.ErrFunc, 19)
	expectFault(t, "f(g N):N=g(1);g(x N):N=1;", api.OK, 0)
}

func TestNoSuchFunction(t *testing.T) {
	expectFault(t, "f():N=g();", api.ErrFunc, 6)
	expectFault(t, "f():N=g(1,h());", api.ErrFunc, 6)
	expectFault(t, "f():N=f()+F();", api.ErrFunc, 10)
	expectFault(t, "f():N=let x N=g() in case x of nil->h()|h:t->1;", api.ErrFunc, 14)
	expectFault(t, "f(x N):N=f(f(g(x)));", api.ErrFunc, 13)
	expectFault(t, "f():N=1;g():N=2;h():N=f()+g()+h()+k();", api.ErrFunc, 34)
}

func TestOtherCounts(t *testing.T) {
	expectFault(t, "f():N=f(1);", api.ErrCount, 6)
	expectFault(t, "f(x N):N=f();", api.ErrCount, 9)
	expectFault(t, "f(x N,y N):N=f(x)+f(x,y,x);", api.ErrCount, 13)
	expectFault(t, "f(x N,y N):N=f(x,y)+f(x,y,x);", api.ErrCount, 20)
	expectFault(t, "f():N=g(1);g(x N,y N):N=1;", api.ErrCount, 6)
	expectFault(t, "f(x N):N=f(f());", api.ErrCount, 11)
	// The first definition of a name is the one that counts, wherever the call stands.
	expectFault(t, "f(x N):N=f(1,2);f(x N,y N):N=1;", api.ErrCount, 9)
	expectFault(t, "f(x N):N=f(1);f(x N,y N):N=f(1,2);", api.ErrTwice, 14)
	expectFault(t, "g():N=f(1);f(x N):N=1;f():N=1;", api.ErrTwice, 22)
	expectFault(t, "g():N=f();f(x N):N=1;f():N=1;", api.ErrCount, 6)
}

// Faults of two kinds, in either order, also where a sign's place puts what is met first behind.
func TestLeastPlace(t *testing.T) {
	expectFault(t, "f():N=g(y);", api.ErrFunc, 6)
	expectFault(t, "f():N=f(y);", api.ErrCount, 6)
	expectFault(t, "f():N=y+g()+f(1);", api.ErrName, 6)
	expectFault(t, "f():N=g()+y+f(1);", api.ErrFunc, 6)
	expectFault(t, "f():N=f(1)+y+g();", api.ErrCount, 6)
	expectFault(t, "f():N=y;f():N=1;", api.ErrName, 6)
	expectFault(t, "f():N=g();f():N=1;", api.ErrFunc, 6)
	expectFault(t, "f():N=1;f():N=y;", api.ErrTwice, 8)
	expectFault(t, "f():N=1;g(x N,x N):N=1;f():N=1;", api.ErrTwice, 14)
	expectFault(t, "f():N=1;f(x N,x N):N=1;", api.ErrTwice, 8)
	expectFault(t, "f(x N):N=g(x)+h();g(y N):N=x;h():N=1;", api.ErrName, 27)
	// Definitions in another order than their places'.
	p := programOf(t, "f():N=y;g():N=z;h(x N,x N):N=1;")
	slices.Reverse(p.Funcs)
	if got := Check(p); got != (api.Fault{Why: api.ErrName, At: 6}) {
		t.Errorf("in another order: %v", got)
	}
}

// Places are whatever a program has: a fault at 0 is no less one, nor one at a great place.
func TestFaultsAtAnyPlace(t *testing.T) {
	for _, at := range []int{0, 1, math.MaxInt, -1, math.MinInt} {
		sum := api.Expr{Op: api.OpAdd, Args: []api.Expr{{Op: api.OpVar, Name: "y", At: at}, {Op: api.OpVar, Name: "z", At: math.MaxInt}}}
		p := api.Program{Funcs: []api.Func{{Name: "f", Type: api.TypeN, Body: sum}}}
		if got := Check(p); got != (api.Fault{Why: api.ErrName, At: at}) {
			t.Errorf("at %d: %v", at, got)
		}
	}
	for _, text := range []string{"f():N=y;", "f():N=g();", "f(x N,x N):N=1;", "f():N=1;f():N=1;", "f():N=f(1);", "f():N=y+g(z)+f(1);f():N=1;"} {
		if got := Check(withoutPlaces(programOf(t, text))); got.Why == api.OK || got.At != 0 {
			t.Errorf("%q without places: %v", text, got)
		}
	}
}

func TestCheckOfDrawn(t *testing.T) {
	seen := map[api.Errno]int{}
	for _, p := range drawPrograms(t, 61, 20000, 12) {
		want := faultByWords(p)
		if got := Check(p); got != want {
			t.Fatalf("%v: %v, not %v", p, got, want)
		}
		if got := Check(withoutPlaces(p)); (got.Why == api.OK) != (want.Why == api.OK) || got.At != 0 {
			t.Fatalf("%v: %v without places, not %v", p, got, want)
		}
		seen[want.Why]++
	}
	for _, why := range []api.Errno{api.OK, api.ErrTwice, api.ErrName, api.ErrFunc, api.ErrCount} {
		if seen[why] < 200 {
			t.Errorf("%v was seen %d times alone", why, seen[why])
		}
	}
}

// P6.2

func TestNamesExamples(t *testing.T) {
	e := exprOf(t, "case x of nil->h|h:t->h+t+y")
	expectNames(t, "Free", Free(e), "h x y")
	if got := Uses(e, "h"); got != 1 {
		t.Errorf("%d uses", got)
	}
	expectNames(t, "Names", Names(programOf(t, "f(x N):N=let y N=g(x) in 1;").Funcs[0]), "f g x y")
}

func TestFree(t *testing.T) {
	for _, r := range [][2]string{
		{"1", ""}, {"nil", ""}, {"fail N", ""}, {"x", "x"}, {"x+x", "x"}, {"f()", ""}, {"f(f)", "f"}, {"f(g(h(x)),y)", "x y"}, {"not(x)", "x"}, {"conj(re(im(z)))", "z"},
		{"c+b*a", "a b c"}, {"if c then b else a", "a b c"}, {"b:a:nil", "a b"}, {"t2+t10+t1+T+tt+t", "T t t1 t10 t2 tt"},
		{"let x N=x in x", ""}, {"let x N=y in z", "y z"}, {"(let x N=x in x)+x", "x"}, {"let x N=(let y N=x+y in 1) in y", "y"},
		{"strict x N=x in x", "x"}, {"strict x N=1 in x", ""}, {"strict x N=y in z", "y z"}, {"strict x N=(let x N=x in x) in x", ""}, {"let x N=(strict x N=x in x) in x", ""},
		{"case x of nil->y|h:t->z", "x y z"}, {"case h of nil->1|h:t->h", "h"}, {"case t of nil->1|h:t->t", "t"}, {"case 1 of nil->h+t|h:t->1", "h t"},
		{"case 1 of nil->1|h:t->h+t", ""}, {"case 1 of nil->1|h:h->h", ""}, {"case 1 of nil->1|h:h->h+t", "t"},
		{"let a N=a+b in strict b N=b in a*b", "b"}, {"strict a N=1 in let b N=a+b in case a of nil->b|a:b->a+b+c", "c"},
	} {
		expectNames(t, r[0], Free(exprOf(t, r[0])), r[1])
	}
}

func TestUses(t *testing.T) {
	for _, r := range []struct {
		text, name string
		want       int
	}{
		{"1", "x", 0}, {"x", "x", 1}, {"x", "y", 0}, {"x", "X", 0}, {"x", "", 0}, {"1", "", 0}, {"x+x*x", "x", 3}, {"x(x,x())", "x", 1}, {"f()", "f", 0},
		{"let x N=x in x", "x", 0}, {"strict x N=x+x in x", "x", 2}, {"x+(let x N=x in x)+x", "x", 2}, {"let y N=x in x", "x", 2}, {"strict y N=x in x", "x", 2},
		{"case x of nil->x|h:t->x", "x", 3}, {"case h of nil->h|h:t->h", "h", 2}, {"case t of nil->t|h:t->t", "t", 2}, {"case h of nil->h|h:h->h", "h", 2},
		{"case x of nil->1|h:t->h+t+x+x", "x", 3}, {"case x of nil->1|h:t->h+t+x+x", "h", 0}, {"let x N=1 in strict y N=x in case x of nil->y|x:z->x", "x", 0},
		{"let a N=a+b in strict b N=b in a*b", "b", 2}, {"let y N=1 in (let y N=2 in y)+y", "y", 0}, {"strict y N=(let y N=y in y)+y in y", "y", 1},
		{"if x then x else not(x)", "x", 3}, {"re(x):im(x):conj(x):nil", "x", 3}, {"f(x,g(x),let x N=x in x)", "x", 2},
	} {
		if got := Uses(exprOf(t, r.text), r.name); got != r.want {
			t.Errorf("%q in %s: %d, not %d", r.name, r.text, got, r.want)
		}
	}
}

func TestNames(t *testing.T) {
	for _, r := range [][2]string{
		{"f():N=1;", "f"}, {"f(f N):N=f(f);", "f"}, {"f(z N,y N,a N):N=1;", "a f y z"}, {"f():N=x;", "f x"}, {"f():N=g();", "f g"}, {"f():N=let x N=1 in 2;", "f x"},
		{"f():N=strict x N=1 in 2;", "f x"}, {"f():N=case nil of nil->1|h:t->2;", "f h t"}, {"f():N=case a of nil->b|c:d->e;", "a b c d e f"}, {"f():N=case a of nil->b|c:c->e;", "a b c e f"},
		{"f():N=g(h(x),not(y));", "f g h x y"}, {"f(x N,x N):N=x+x+f(x);", "f x"}, {"t1(t10 N):N=T+t2();", "T t1 t10 t2"},
		{"f():N=let a N=strict b N=c in d in if e then re(g()) else h:i;", "a b c d e f g h i"},
		{"f():B=if fail N+1i==re(2) then true*false/4 else nil-conj(im(3)):5;", "f"},
	} {
		expectNames(t, r[0], Names(programOf(t, r[0]).Funcs[0]), r[1])
	}
	f := programOf(t, "f():N=1;g():N=x;").Funcs[1]
	expectNames(t, "of the second definition", Names(f), "g x")
}

func TestNamesOfDrawn(t *testing.T) {
	for _, p := range drawPrograms(t, 62, 1500, 40) {
		for _, f := range p.Funcs {
			if got, want := Names(f), namesByWords(f); !slices.Equal(got, want) {
				t.Fatalf("%v: %q, not %q", f, got, want)
			}
			for _, s := range places(f.Body, nil) {
				expectFreeByWords(t, s.e)
			}
		}
	}
}

func expectFreeByWords(t *testing.T, e api.Expr) {
	t.Helper()
	all := freeByWords(e)
	if got, want := Free(e), slices.Compact(slices.Clone(all)); !slices.Equal(got, want) {
		t.Fatalf("%v: %q, not %q", e, got, want)
	}
	for _, name := range []string{"x", "y", "f", "t1", "aa", "Z", "g", ""} {
		want := 0
		for _, x := range all {
			if x == name {
				want++
			}
		}
		if got := Uses(e, name); got != want {
			t.Fatalf("%v: %d of %q, not %d", e, got, name, want)
		}
	}
}

// P6.3

func TestSizeAndNest(t *testing.T) {
	for _, r := range []struct {
		text       string
		size, nest int
	}{
		{"1+(let x N=2 in case nil of nil->x|h:t->h)", 8, 2}, {"1", 1, 0}, {"x", 1, 0}, {"fail L", 1, 0}, {"nil", 1, 0}, {"((x))", 1, 0}, {"g()", 1, 0}, {"g(1)", 2, 0}, {"g(1,x,g())", 4, 0},
		{"not(true)", 2, 0}, {"re(im(conj(x)))", 4, 0}, {"1+2*3-4/5", 9, 0}, {"1==2", 3, 0}, {"1<2", 3, 0}, {"1:2:nil", 5, 0}, {"if a then b else c", 4, 0},
		{"if if a then b else c then 1 else 2", 7, 0}, {"let x N=1 in 2", 3, 1}, {"strict x N=1 in 2", 3, 1}, {"case a of nil->b|h:t->c", 4, 1},
		{"let x N=(let y N=1 in 2) in 3", 5, 2}, {"let x N=1 in let y N=2 in 3", 5, 2}, {"strict x N=(let y N=1 in 2) in 3", 5, 2}, {"strict x N=1 in strict y N=2 in 3", 5, 2},
		{"case (let x N=1 in 2) of nil->b|h:t->c", 6, 2}, {"case a of nil->(let x N=1 in 2)|h:t->c", 6, 2}, {"case a of nil->b|h:t->let x N=1 in 2", 6, 2},
		{"(let x N=1 in 2)+(let y N=(strict z N=1 in 2) in 3)", 9, 2}, {"(let y N=(strict z N=1 in 2) in 3)+(let x N=1 in 2)", 9, 2}, {"g(let x N=1 in 2,case a of nil->b|h:t->strict x N=1 in 2)", 10, 2},
		{"if let x N=1 in 2 then 3 else 4", 6, 1}, {"if 3 then let x N=1 in 2 else 4", 6, 1}, {"if 3 then 4 else let x N=1 in 2", 6, 1},
		{"let x N=if let y N=1 in 2 then re(case a of nil->b|h:t->case c of nil->d|h:t->e) else 1 in 2", 15, 3},
	} {
		e := exprOf(t, r.text)
		if size, nest := Size(e), Nest(e); size != r.size || nest != r.nest {
			t.Errorf("%s: %d, %d; not %d, %d", r.text, size, nest, r.size, r.nest)
		}
	}
}

func TestSizeAndNestOfDrawn(t *testing.T) {
	for _, p := range drawPrograms(t, 63, 500, 40) {
		for _, f := range p.Funcs {
			for _, s := range places(f.Body, nil) {
				if got, want := Size(s.e), len(places(s.e, nil)); got != want {
					t.Fatalf("%v: size %d, not %d", s.e, got, want)
				}
				if got, want := Nest(s.e), nestByWords(s.e); got != want {
					t.Fatalf("%v: nest %d, not %d", s.e, got, want)
				}
			}
		}
	}
}

// P6.4

func TestFresh(t *testing.T) {
	for _, r := range []struct {
		taken string
		n     int
		want  string
	}{
		{"t2 x t1x", 3, "t1 t3 t4"}, {"", 0, ""}, {"", 1, "t1"}, {"", 3, "t1 t2 t3"}, {"t1", 0, ""}, {"t1", 1, "t2"}, {"t3 t1 t2", 2, "t4 t5"}, {"t1 t1 t1", 2, "t2 t3"},
		{"t t0 t01 t1_ T1 tt1 1 t-1 t+1", 2, "t1 t2"}, {"t10 t9 t1", 10, "t2 t3 t4 t5 t6 t7 t8 t11 t12 t13"}, {"t5", 3, "t1 t2 t3"}, {"t99999999999999999999", 2, "t1 t2"},
	} {
		got, e := Fresh(strings.Fields(r.taken), r.n)
		if e != api.OK {
			t.Errorf("%s, %d: %v", r.taken, r.n, e)
		}
		expectNames(t, r.taken, got, r.want)
	}
	if got, e := Fresh([]string{"", "t1"}, 1); e != api.OK || !slices.Equal(got, []string{"t2"}) {
		t.Errorf("with an empty name: %q, %v", got, e)
	}
}

func TestFreshRange(t *testing.T) {
	for _, n := range []int{-1, -4096, 4097, math.MinInt, math.MaxInt} {
		for _, taken := range [][]string{nil, {}, {"t1"}} {
			if got, e := Fresh(taken, n); e != api.ErrRange || len(got) != 0 {
				t.Errorf("%d: %d names, %v", n, len(got), e)
			}
		}
	}
}

func TestFreshMost(t *testing.T) {
	var taken, want []string
	for i := 1; i <= 20000; i++ {
		name := "t" + strconv.Itoa(i)
		if i%3 == 0 && i <= 9000 {
			taken = append(taken, name)
		} else {
			want = append(want, name)
		}
	}
	slices.Reverse(taken)
	for _, n := range []int{0, 1, 2, 4095, 4096} {
		if got, e := Fresh(taken, n); e != api.OK || !slices.Equal(got, want[:n]) {
			t.Errorf("%d: %d names, %v", n, len(got), e)
		}
	}
}
