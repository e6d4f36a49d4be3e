package lang

import (
	"math"
	"slices"
	"strings"
	"testing"

	"fathom/api"
)

var wide = api.Limits{Text: api.MaxWide, Funcs: 99, Arity: 99, Nest: 99}

// A short way to write what is wanted.

func num(at int, n complex128) api.Expr { return api.Expr{Op: api.OpNum, Num: n, At: at} }

func plain(at int, op api.Op) api.Expr { return api.Expr{Op: op, At: at} }

func fail(at int, t api.Type) api.Expr { return api.Expr{Op: api.OpFail, Type: t, At: at} }

func variable(at int, name string) api.Expr { return api.Expr{Op: api.OpVar, Name: name, At: at} }

func call(at int, name string, args ...api.Expr) api.Expr {
	return api.Expr{Op: api.OpCall, Name: name, Args: args, At: at}
}

func made(at int, op api.Op, args ...api.Expr) api.Expr { return api.Expr{Op: op, Args: args, At: at} }

func bound(at int, op api.Op, name string, t api.Type, what, where api.Expr) api.Expr {
	return api.Expr{Op: op, Name: name, Type: t, Args: []api.Expr{what, where}, At: at}
}

func looked(at int, head, tail string, args ...api.Expr) api.Expr {
	return api.Expr{Op: api.OpCase, Name: head, Tail: tail, Args: args, At: at}
}

func sameExpr(a, b api.Expr) bool {
	plus := !math.Signbit(real(a.Num)) && !math.Signbit(imag(a.Num))
	return a.Op == b.Op && a.Name == b.Name && a.Tail == b.Tail && a.Type == b.Type && a.Num == b.Num && plus && a.At == b.At &&
		slices.EqualFunc(a.Args, b.Args, sameExpr)
}

func sameFunc(a, b api.Func) bool {
	return a.Name == b.Name && slices.Equal(a.Params, b.Params) && a.Type == b.Type && sameExpr(a.Body, b.Body) && a.At == b.At
}

func same(a, b api.Program) bool { return slices.EqualFunc(a.Funcs, b.Funcs, sameFunc) }

func expectProgram(t *testing.T, text string, l api.Limits, want ...api.Func) {
	t.Helper()
	if got, f := Parse([]byte(text), l); f != (api.Fault{}) || !same(got, api.Program{Funcs: want}) {
		t.Errorf("%.200q, %v: %v, %v; not %v", text, l, got, f, want)
	}
}

// expectBody has the body behind f():N=.
func expectBody(t *testing.T, body string, want api.Expr) {
	t.Helper()
	expectProgram(t, "f():N="+body+";", wide, api.Func{Name: "f", Type: api.TypeN, Body: want})
}

func expectFault(t *testing.T, text string, l api.Limits, why api.Errno, at int) {
	t.Helper()
	if got, f := Parse([]byte(text), l); f != (api.Fault{Why: why, At: at}) || len(got.Funcs) != 0 {
		t.Errorf("%.200q, %v: %v, %v; not %v at %d", text, l, got, f, why, at)
	}
}

// P4.1

func TestGrammarFaults(t *testing.T) {
	for _, r := range []struct {
		text string
		at   int
	}{
		{"f():N=;", 6}, {"", 0}, {"f(x):N=x;", 3}, {"f():N=1", 7}, {"f():B=1<2<3;", 9}, {"f():N=(1;", 8}, {"f():N=1+let x N=1 in x;", 8},
		{"# a remark", 10}, {"f", 1}, {"f(", 2}, {"f()", 3}, {"f():", 4}, {"f():N", 5}, {"f():N=", 6}, {"f():N=1;;", 8}, {"f():N=1; 1", 9},
		{"f():N=1; g", 10}, {"1():N=1;", 0}, {"let():N=1;", 0}, {"N():N=1;", 0}, {";", 0}, {"()", 0}, {"f:N=1;", 1}, {"f(,x N):N=1;", 2},
		{"f(x N,):N=1;", 6}, {"f(x N y N):N=1;", 6}, {"f(N):N=1;", 2}, {"f(x N", 5}, {"f(x y):N=1;", 4}, {"f(x nil):N=1;", 4}, {"f(1):N=1;", 2},
		{"f((x N)):N=1;", 2}, {"f()N=1;", 3}, {"f():x=1;", 4}, {"f():n=1;", 4}, {"f():N==1;", 5}, {"f():N=1 2;", 8}, {"f():N=x y;", 8},
		{"f():N=1,2;", 7}, {"f():N=1);", 7}, {"f():N=();", 7}, {"f():N=(1 2);", 9}, {"f():N=g(;", 8}, {"f():N=g(1,);", 10}, {"f():N=g(,1);", 8},
		{"f():N=g(1 2);", 10}, {"f():N=g(1;", 9}, {"f():N=g()();", 9}, {"f():N=(g)(1);", 9}, {"f():N=1(2);", 7}, {"f():N=true();", 10},
		{"f():N=nil(1);", 9}, {"f():N=+1;", 6}, {"f():N=-1;", 6}, {"f():N=1+-1;", 8}, {"f():N=1+;", 8}, {"f():N=1*;", 8}, {"f():N=1*/2;", 8},
		{"f():N=1:;", 8}, {"f():N=:1;", 6}, {"f():N=1==2==3;", 10}, {"f():N=1==2<3;", 10}, {"f():N=1<2==3;", 9}, {"f():N=1=2;", 7},
		{"f():N=1===2;", 9}, {"f():N=1->2;", 7}, {"f():N=1|2;", 7}, {"f():N=in;", 6}, {"f():N=then;", 6}, {"f():N=of;", 6}, {"f():N=N;", 6},
		{"f():N=fail;", 10}, {"f():N=fail x;", 11}, {"f():N=fail(N);", 10}, {"f():N=re 1;", 9}, {"f():N=not true;", 10}, {"f():N=re();", 9},
		{"f():N=conj(1,2);", 12}, {"f():N=im(1;", 10}, {"f():N=not;", 9},
		{"f():N=let;", 9}, {"f():N=let N N=1 in 1;", 10}, {"f():N=let x=1 in x;", 11}, {"f():N=let x N 1 in x;", 14}, {"f():N=let x N=in x;", 14},
		{"f():N=let x N=1;", 15}, {"f():N=let x N=1 in;", 18}, {"f():N=let x N=1,y N=2 in x;", 15}, {"f():N=strict x N=1 x;", 19},
		{"f():N=strict x:N=1 in x;", 14}, {"f():N=if;", 8}, {"f():N=if true;", 13}, {"f():N=if true then;", 18}, {"f():N=if true then 1;", 20},
		{"f():N=if true then 1 else;", 25}, {"f():N=if true else 1;", 14}, {"f():N=if true then 1 else 2 else 3;", 28},
		{"f():N=case;", 10}, {"f():N=case x;", 12}, {"f():N=case x of;", 15}, {"f():N=case x of h:t->1|nil->2;", 16}, {"f():N=case x of nil 1;", 20},
		{"f():N=case x of nil->;", 21}, {"f():N=case x of nil->1;", 22}, {"f():N=case x of nil->1|nil->2;", 23}, {"f():N=case x of nil->1|h->2;", 24},
		{"f():N=case x of nil->1|h:nil->2;", 25}, {"f():N=case x of nil->1|h:t:u->2;", 26}, {"f():N=case x of nil->1|1:t->2;", 23},
		{"f():N=case x of nil->1|h:t 2;", 27}, {"f():N=case x of nil->1|h:t->;", 28}, {"f():N=case x of nil->1|h:t->2|h:t->3;", 29},
		{"f():N=case x of nil->1|(h:t)->2;", 23}, {"f():N=1*if true then 1 else 2;", 8}, {"f():N=1:case x of nil->1|h:t->2;", 8},
		{"f():N=1<strict x N=1 in x;", 8}, {"f():N=re let x N=1 in x;", 9}, {"f():N=(let x N=1 in x;", 21}, {"f():N=x let;", 8},
		{"f():N=let x N=1 in x let y N=1 in y;", 21}, {"f():N=1 in 2;", 8}, {"f():N=(let x N=1) in x;", 16}, {"f():N=g(let x N=1, 2);", 17},
	} {
		expectFault(t, r.text, wide, api.ErrGram, r.at)
	}
}

func TestTextsThatAreTooLong(t *testing.T) {
	for _, text := range []string{"?????", "f():N", "     ", "\x00\xff@@@"} {
		expectFault(t, text, api.Limits{Text: 4, Funcs: 9, Arity: 9, Nest: 9}, api.ErrTooBig, 4)
	}
	for _, none := range []int{0, -1, -7, math.MinInt} {
		expectFault(t, "@", api.Limits{Text: none, Funcs: 9}, api.ErrTooBig, 0)
		expectFault(t, "", api.Limits{Text: none, Funcs: 9}, api.ErrGram, 0)
	}
	f := api.Func{Name: "f", Type: api.TypeN, Body: num(6, 1)}
	text := "f():N=1;"
	filled := text + strings.Repeat(" ", api.MaxWide-len(text))
	for _, most := range []int{api.MaxWide, api.MaxWide + 1, math.MaxInt} {
		l := api.Limits{Text: most, Funcs: 1}
		expectProgram(t, filled, l, f)
		expectFault(t, filled+" ", l, api.ErrTooBig, api.MaxWide)
		expectFault(t, filled+strings.Repeat("@", 100000), l, api.ErrTooBig, api.MaxWide)
	}
	expectFault(t, filled, api.Limits{Text: api.MaxWide - 1, Funcs: 1}, api.ErrTooBig, api.MaxWide-1)
	expectProgram(t, text, api.Limits{Text: 8, Funcs: 1}, f)
	expectFault(t, text, api.Limits{Text: 7, Funcs: 1}, api.ErrTooBig, 7)
}

func TestFaultsOfMarksComeFirst(t *testing.T) {
	expectFault(t, "f():N=1; @", wide, api.ErrMark, 9)
	expectFault(t, "((( 007", wide, api.ErrMark, 4)
	expectFault(t, "f(x N):N=let x N=1 in _;", api.Limits{Text: 99}, api.ErrMark, 22)
	expectFault(t, "_ @", wide, api.ErrMark, 0)
	expectFault(t, "\u00e9", wide, api.ErrMark, 0)
	expectFault(t, "f():N=16777217;", wide, api.ErrMark, 6)
	expectFault(t, "f():N=16777217;", api.Limits{Text: 14, Funcs: 1}, api.ErrTooBig, 14)
}

func TestTooManyDefinitions(t *testing.T) {
	text := "f():N=1; g():N=2;h():N=3;"
	for _, r := range []struct{ most, at int }{{-5, 0}, {math.MinInt, 0}, {0, 0}, {1, 9}, {2, 17}} {
		expectFault(t, text, api.Limits{Text: 99, Funcs: r.most, Nest: 9}, api.ErrTooBig, r.at)
		expectFault(t, text+"@", api.Limits{Text: 99, Funcs: r.most, Nest: 9}, api.ErrMark, len(text))
	}
	for _, most := range []int{3, 4, math.MaxInt} {
		expectProgram(t, text, api.Limits{Text: 99, Funcs: most},
			api.Func{Name: "f", Type: api.TypeN, Body: num(6, 1)},
			api.Func{Name: "g", Type: api.TypeN, Body: num(15, 2), At: 9},
			api.Func{Name: "h", Type: api.TypeN, Body: num(23, 3), At: 17})
	}
	one := api.Limits{Text: 99, Funcs: 1}
	expectFault(t, "f():N=1; g", one, api.ErrTooBig, 9)
	expectFault(t, "f():N=1; (", one, api.ErrGram, 9)
	expectFault(t, "f():N=1; nil", one, api.ErrGram, 9)
	expectFault(t, "f():N=; g():N=2;", one, api.ErrGram, 6)
	expectFault(t, "f(x N):N=1; g():N=2;", one, api.ErrTooBig, 2)
	expectFault(t, "(", api.Limits{Text: 99}, api.ErrGram, 0)
	expectFault(t, "", api.Limits{Text: 99}, api.ErrGram, 0)
}

func TestTooManyParameters(t *testing.T) {
	text := "f(x N,y B,z L):N=x;"
	for _, r := range []struct{ most, at int }{{-5, 2}, {math.MinInt, 2}, {0, 2}, {1, 6}, {2, 10}} {
		expectFault(t, text, api.Limits{Text: 99, Funcs: 1, Arity: r.most}, api.ErrTooBig, r.at)
	}
	for _, most := range []int{3, 4, math.MaxInt} {
		expectProgram(t, text, api.Limits{Text: 99, Funcs: 1, Arity: most}, api.Func{
			Name: "f", Type: api.TypeN, Body: variable(17, "x"),
			Params: []api.Param{{Name: "x", Type: api.TypeN, At: 2}, {Name: "y", Type: api.TypeB, At: 6}, {Name: "z", Type: api.TypeL, At: 10}},
		})
	}
	expectFault(t, "f(x", api.Limits{Text: 99, Funcs: 1}, api.ErrTooBig, 2)
	expectFault(t, "f(1", api.Limits{Text: 99, Funcs: 1}, api.ErrGram, 2)
	expectFault(t, "f(x N,)", api.Limits{Text: 99, Funcs: 1, Arity: 1}, api.ErrGram, 6)
	expectFault(t, "f(x,y N)", api.Limits{Text: 99, Funcs: 1, Arity: 1}, api.ErrGram, 3)
	// Each definition has a count of its own, and arguments of a call are none of it.
	one := api.Limits{Text: 99, Funcs: 9, Arity: 1}
	expectProgram(t, "f(x N):N=g(1,2); g(y N):N=y;", one,
		api.Func{Name: "f", Params: []api.Param{{Name: "x", Type: api.TypeN, At: 2}}, Type: api.TypeN, Body: call(9, "g", num(11, 1), num(13, 2))},
		api.Func{Name: "g", Params: []api.Param{{Name: "y", Type: api.TypeN, At: 19}}, Type: api.TypeN, Body: variable(26, "y"), At: 17})
	expectFault(t, "f(x N):N=x; g(y N,z N):N=y;", one, api.ErrTooBig, 18)
}

func TestNestedTooDeep(t *testing.T) {
	for _, r := range []struct {
		text     string
		nest, at int
	}{
		{"f():N=let x N=1 in case nil of nil->x|h:t->h;", 1, 19},
		{"f():N=let x N=1 in case nil of nil->x|h:t->h;", 0, 6},
		{"f():N=if case nil of nil->true|h:t->true then 1 else 2;", 0, 9},
		{"f():N=strict x N=1 in x;", 0, 6},
		{"f():N=strict x N=1 in x;", -1, 6},
		{"f():N=strict x N=1 in x;", math.MinInt, 6},
		{"f():N=let x N=let y N=1 in y in x;", 1, 14},
		{"f():N=let x N=1 in let y N=1 in y;", 1, 19},
		{"f():N=case case nil of nil->nil|a:b->b of nil->1|h:t->h;", 1, 11},
		{"f():N=case nil of nil->let x N=1 in x|h:t->h;", 1, 23},
		{"f():N=case nil of nil->1|h:t->strict x N=1 in x;", 1, 30},
		{"f():N=let x N=1 in 1+(2*g(if true then let y N=1 in y else 2));", 1, 39},
		{"f():N=let x N=g(not(case nil of nil->true|h:t->true)) in x;", 1, 20},
		{"f():N=(let x N=1 in x)+(let y N=let z N=1 in z in y);", 1, 32},
		{"f():N=1;g():N=let x N=1 in x;", 0, 14},
		{"f():N=let", 0, 6},
		{"f():N=let x N=case", 1, 14},
	} {
		expectFault(t, r.text, api.Limits{Text: 99, Funcs: 9, Nest: r.nest}, api.ErrNest, r.at)
	}
	for _, r := range []struct {
		text string
		nest int
	}{
		{"f():N=if true then if true then 1 else 2 else if true then 3 else 4;", 0},
		{"f():N=((((1))))+g((((2))));", -3},
		{"f():N=(let x N=1 in x)+(let y N=2 in y);", 1},
		{"f():N=if (case nil of nil->true|h:t->true) then let x N=1 in x else strict x N=1 in x;", 1},
		{"f():N=g(let x N=1 in x, case nil of nil->2|h:t->h);", 1},
		{"f():N=let x N=1 in x; g():N=let x N=2 in x;", 1},
		{"f():N=let x N=let y N=1 in y in let z N=2 in z;", 2},
		{"f():N=case case nil of nil->nil|a:b->b of nil->case nil of nil->1|a:b->a|h:t->let x N=1 in x;", 2},
		{"f():N=let x N=1 in case nil of nil->x|h:t->h;", 2},
		{"f():N=let x N=1 in case nil of nil->x|h:t->h;", math.MaxInt},
	} {
		if got, f := Parse([]byte(r.text), api.Limits{Text: 99, Funcs: 9, Nest: r.nest}); f != (api.Fault{}) || len(got.Funcs) == 0 {
			t.Errorf("%s, %d: %v, %v", r.text, r.nest, got, f)
		}
	}
	none := api.Limits{Text: 99, Funcs: 1}
	expectFault(t, "f():N=1+let x N=1 in x;", none, api.ErrGram, 8)
	expectFault(t, "f():N=re case x of nil->1|h:t->2;", none, api.ErrGram, 9)
	expectFault(t, "case", none, api.ErrGram, 0)
	expectFault(t, "f(let", none, api.ErrGram, 2)
	expectFault(t, "f():N=x strict y N=1 in y;", none, api.ErrGram, 8)
}

func TestTheFirstFaultIsTold(t *testing.T) {
	l := api.Limits{Text: 99, Funcs: 1, Arity: 1, Nest: 1}
	expectFault(t, "f(x N,y N):N=let;g", l, api.ErrTooBig, 6)
	expectFault(t, "f(x N):N=let x N=let y N=;g", l, api.ErrNest, 17)
	expectFault(t, "f(x N):N=let x N=;g(x N,y N):N=1;", l, api.ErrGram, 17)
	expectFault(t, "f(x N):N=1;g(x N,y N):N=;", l, api.ErrTooBig, 11)
	expectFault(t, "f(x N):N=1;let", l, api.ErrGram, 11)
	expectFault(t, "f(x N):N=let x N=1 in let x N=1 in x;;", l, api.ErrNest, 22)
}

// P4.2

func TestDefinitions(t *testing.T) {
	expectProgram(t, "f(x N):N=x+1;", wide, api.Func{
		Name: "f", Params: []api.Param{{Name: "x", Type: api.TypeN, At: 2}}, Type: api.TypeN,
		Body: made(10, api.OpAdd, variable(9, "x"), num(11, 1)),
	})
	// A name may stand where it means nothing, or twice: of that the parser tells nothing.
	expectProgram(t, "f(x N,x L):B=y;\n f ( ) : L = f ( f ) ; # end", wide,
		api.Func{
			Name: "f", Params: []api.Param{{Name: "x", Type: api.TypeN, At: 2}, {Name: "x", Type: api.TypeL, At: 6}}, Type: api.TypeB,
			Body: variable(13, "y"),
		},
		api.Func{Name: "f", Type: api.TypeL, Body: call(29, "f", variable(33, "f")), At: 17})
	expectProgram(t, "sum(l L):N=case l of nil->0|h:t->h+sum(t);", wide, api.Func{
		Name: "sum", Params: []api.Param{{Name: "l", Type: api.TypeL, At: 4}}, Type: api.TypeN,
		Body: looked(11, "h", "t", variable(16, "l"), num(26, 0), made(34, api.OpAdd, variable(33, "h"), call(35, "sum", variable(39, "t")))),
	})
}

func TestUnits(t *testing.T) {
	expectBody(t, "0", num(6, 0))
	expectBody(t, "16777216i", num(6, 16777216i))
	expectBody(t, "true", plain(6, api.OpTrue))
	expectBody(t, "false", plain(6, api.OpFalse))
	expectBody(t, "nil", plain(6, api.OpNil))
	expectBody(t, "fail N", fail(6, api.TypeN))
	expectBody(t, "fail B", fail(6, api.TypeB))
	expectBody(t, " fail\nL", fail(7, api.TypeL))
	expectBody(t, "x", variable(6, "x"))
	expectBody(t, "g()", call(6, "g"))
	expectBody(t, "g (x,(y), 2)", call(6, "g", variable(9, "x"), variable(12, "y"), num(16, 2)))
	expectBody(t, "g(h(x),let y N=1 in y)", call(6, "g", call(8, "h", variable(10, "x")), bound(13, api.OpLet, "y", api.TypeN, num(21, 1), variable(26, "y"))))
	expectBody(t, "not(x)", made(6, api.OpNot, variable(10, "x")))
	expectBody(t, "re(x)", made(6, api.OpRe, variable(9, "x")))
	expectBody(t, "im(x)", made(6, api.OpIm, variable(9, "x")))
	expectBody(t, "conj (x:y)", made(6, api.OpConj, made(13, api.OpCons, variable(12, "x"), variable(14, "y"))))
	expectBody(t, "((1))", num(8, 1))
	expectBody(t, "(g)", variable(7, "g"))
	expectBody(t, "(if x then 1 else 2)", made(7, api.OpIf, variable(10, "x"), num(17, 1), num(24, 2)))
}

func TestOperands(t *testing.T) {
	expectBody(t, "1-2-3*g()", made(9, api.OpSub, made(7, api.OpSub, num(6, 1), num(8, 2)), made(11, api.OpMul, num(10, 3), call(12, "g"))))
	expectBody(t, "1+2-3+4", made(11, api.OpAdd, made(9, api.OpSub, made(7, api.OpAdd, num(6, 1), num(8, 2)), num(10, 3)), num(12, 4)))
	expectBody(t, "1*2/3*4", made(11, api.OpMul, made(9, api.OpQuo, made(7, api.OpMul, num(6, 1), num(8, 2)), num(10, 3)), num(12, 4)))
	expectBody(t, "1/2+3/4", made(9, api.OpAdd, made(7, api.OpQuo, num(6, 1), num(8, 2)), made(11, api.OpQuo, num(10, 3), num(12, 4))))
	expectBody(t, "1-(2-3)", made(7, api.OpSub, num(6, 1), made(10, api.OpSub, num(9, 2), num(11, 3))))
	expectBody(t, "(1-2)*3", made(11, api.OpMul, made(8, api.OpSub, num(7, 1), num(9, 2)), num(12, 3)))
	expectBody(t, "1+2<3*4", made(9, api.OpLess, made(7, api.OpAdd, num(6, 1), num(8, 2)), made(11, api.OpMul, num(10, 3), num(12, 4))))
	expectBody(t, "1 == 2-3", made(8, api.OpEq, num(6, 1), made(12, api.OpSub, num(11, 2), num(13, 3))))
	expectBody(t, "(1<2)==true", made(11, api.OpEq, made(8, api.OpLess, num(7, 1), num(9, 2)), plain(13, api.OpTrue)))
	expectBody(t, "1:2:nil", made(7, api.OpCons, num(6, 1), made(9, api.OpCons, num(8, 2), plain(10, api.OpNil))))
	expectBody(t, "(1:2):3", made(11, api.OpCons, made(8, api.OpCons, num(7, 1), num(9, 2)), num(12, 3)))
	expectBody(t, "1<2:3+4:x==y", made(9, api.OpCons, made(7, api.OpLess, num(6, 1), num(8, 2)),
		made(13, api.OpCons, made(11, api.OpAdd, num(10, 3), num(12, 4)), made(15, api.OpEq, variable(14, "x"), variable(17, "y")))))
	expectBody(t, "1+(let x N=1 in x)", made(7, api.OpAdd, num(6, 1), bound(9, api.OpLet, "x", api.TypeN, num(17, 1), variable(22, "x"))))
}

func TestWordedExpressions(t *testing.T) {
	expectBody(t, "let x B=1 in x:y", bound(6, api.OpLet, "x", api.TypeB, num(14, 1), made(20, api.OpCons, variable(19, "x"), variable(21, "y"))))
	expectBody(t, "strict x L=1+2 in x", bound(6, api.OpStrict, "x", api.TypeL, made(18, api.OpAdd, num(17, 1), num(19, 2)), variable(24, "x")))
	expectBody(t, "let x N=let y N=1 in y in let z N=2 in z", bound(6, api.OpLet, "x", api.TypeN,
		bound(14, api.OpLet, "y", api.TypeN, num(22, 1), variable(27, "y")),
		bound(32, api.OpLet, "z", api.TypeN, num(40, 2), variable(45, "z"))))
	expectBody(t, "if x<1 then 2 else 3+4", made(6, api.OpIf, made(10, api.OpLess, variable(9, "x"), num(11, 1)), num(18, 2), made(26, api.OpAdd, num(25, 3), num(27, 4))))
	expectBody(t, "if if a then b else c then if d then e else f else g", made(6, api.OpIf,
		made(9, api.OpIf, variable(12, "a"), variable(19, "b"), variable(26, "c")),
		made(33, api.OpIf, variable(36, "d"), variable(43, "e"), variable(50, "f")), variable(57, "g")))
	expectBody(t, "case nil of nil->1|h:t->h:t", looked(6, "h", "t", plain(11, api.OpNil), num(23, 1), made(31, api.OpCons, variable(30, "h"), variable(32, "t"))))
	expectBody(t, "case a:b of nil->case c of nil->d|e:f->g|h:h->i", looked(6, "h", "h",
		made(12, api.OpCons, variable(11, "a"), variable(13, "b")),
		looked(23, "e", "f", variable(28, "c"), variable(38, "d"), variable(45, "g")), variable(52, "i")))
}

// A text of MaxWide bytes may be nested as deep as its bytes allow.
func TestDeepTexts(t *testing.T) {
	all := api.Limits{Text: math.MaxInt, Funcs: math.MaxInt, Arity: math.MaxInt, Nest: math.MaxInt}
	for _, r := range []struct {
		open, inner, shut string
		each, more        int // the depth that each of them adds, and that of the rest
	}{
		{"(", "1", ")", 0, 1}, {"g(", "", ")", 1, 0}, {"re(", "1", ")", 1, 1}, {"1+(", "1", ")", 1, 1},
		{"let x N=", "1", " in x", 1, 1}, {"let x N=1 in ", "1", "", 1, 1}, {"strict x N=", "1", " in 1", 1, 1},
		{"if ", "x", " then 1 else 2", 1, 1}, {"if x then ", "1", " else 2", 1, 1}, {"if x then 1 else ", "2", "", 1, 1},
		{"case ", "x", " of nil->1|h:t->2", 1, 1}, {"case x of nil->", "1", "|h:t->2", 1, 1}, {"case x of nil->1|h:t->", "2", "", 1, 1},
		{"1:", "nil", "", 1, 1}, {"1+", "1", "", 1, 1}, {"2*", "1", "", 1, 1}, {"1<1:", "1", "", 1, 2},
	} {
		n := (api.MaxWide - len("f():N=;") - len(r.inner)) / (len(r.open) + len(r.shut))
		text := "f():N=" + strings.Repeat(r.open, n) + r.inner + strings.Repeat(r.shut, n)
		if got, f := Parse([]byte(text+";"), all); f != (api.Fault{}) || len(got.Funcs) != 1 || depth(got.Funcs[0].Body) != n*r.each+r.more {
			t.Errorf("%d of %s%s%s: %v", n, r.open, r.inner, r.shut, f)
		}
		expectFault(t, text, all, api.ErrGram, len(text))
		expectFault(t, text+"=", all, api.ErrGram, len(text))
	}
}

// depth is how many parts are nested in one another, the whole one too.
func depth(e api.Expr) int {
	deepest := 0
	for _, part := range e.Args {
		deepest = max(deepest, depth(part))
	}
	return deepest + 1
}
