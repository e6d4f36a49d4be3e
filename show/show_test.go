package show

import (
	"math"
	"strings"
	"testing"

	"fathom/api"
	"fathom/lang"
)

var wide = api.Limits{Text: math.MaxInt, Funcs: math.MaxInt, Arity: math.MaxInt, Nest: math.MaxInt}

func programOf(t *testing.T, text string) api.Program {
	t.Helper()
	p, f := lang.Parse([]byte(text), wide)
	if f != (api.Fault{}) {
		t.Fatalf("%q: %v", text, f)
	}
	return p
}

func expectProgram(t *testing.T, text, want string) {
	t.Helper()
	if got := Program(programOf(t, text)); got != want {
		t.Errorf("%q: %q, not %q", text, got, want)
	}
}

// expectExpr is of an expression that stands in a text.
func expectExpr(t *testing.T, text, want string) {
	t.Helper()
	if got := Expr(programOf(t, "f():N="+text+";").Funcs[0].Body); got != want {
		t.Errorf("%q: %q, not %q", text, got, want)
	}
}

// P5.1

func TestExamples(t *testing.T) {
	expectProgram(t, "f(x N,y L):N=((x)+1)*2;g():B=true;", "f(x N, y L): N = (x + 1) * 2;\ng(): B = true;\n")
	expectProgram(t, "f():N=1-(2-3)-(4*5);", "f(): N = 1 - (2 - 3) - 4 * 5;\n")
	expectProgram(t, "f():L=(1:nil):(2:3);", "f(): L = (1 : nil) : 2 : 3;\n")
	expectProgram(t, "f():N=(let x N=1 in x)+(if 1<2 then 3i else fail N);", "f(): N = (let x N = 1 in x) + (if 1 < 2 then 3i else fail N);\n")
	expectProgram(t, "f():N=case g(nil,re(1)) of nil->let y N=1 in y|h:t->not(h);",
		"f(): N = case g(nil, re(1)) of nil -> let y N = 1 in y | h:t -> not(h);\n")
}

func TestDefinitions(t *testing.T) {
	expectProgram(t, "f():N=1;", "f(): N = 1;\n")
	expectProgram(t, "f(x B):B=x;", "f(x B): B = x;\n")
	expectProgram(t, "f(x N,y B,z L):L=z; # a remark", "f(x N, y B, z L): L = z;\n")
	expectProgram(t, "g():N=(((1)));\n\nf():N=g();g():L=nil;", "g(): N = 1;\nf(): N = g();\ng(): L = nil;\n")
	if got := Program(api.Program{}); got != "" {
		t.Errorf("of no definition: %q", got)
	}
	if got := Program(api.Program{Funcs: []api.Func{}}); got != "" {
		t.Errorf("of no definition: %q", got)
	}
}

func TestUnits(t *testing.T) {
	for _, text := range []string{
		"0", "7", "16777216", "1i", "16777216i", "true", "false", "nil", "fail N", "fail B", "fail L", "x", "nil_", "g()", "g(x)", "g(x, y, 2, 3i)",
		"not(x)", "re(x)", "im(x)", "conj(x)", "not(re(im(conj(g(x)))))",
	} {
		expectExpr(t, text, text)
		expectExpr(t, "(("+text+"))", text)
		expectExpr(t, "("+text+")*("+text+")", text+" * "+text)
		expectExpr(t, "1/("+text+")", "1 / "+text)
	}
}

// Within the brackets of a call or of a word no brackets more are wanted.
func TestWhatStandsInBracketsAlready(t *testing.T) {
	for _, inner := range []string{
		"let x N = 1 in x", "strict x L = nil in x", "if x then y else z", "case x of nil -> y | h:t -> z", "1 : nil", "1 == 2", "1 < 2", "1 + 2", "1 / 2",
	} {
		for _, text := range []string{"g(" + inner + ")", "g(" + inner + ", " + inner + ")", "not(" + inner + ")", "re(" + inner + ")", "im(" + inner + ")", "conj(" + inner + ")"} {
			expectExpr(t, text, text)
		}
		expectExpr(t, "if "+inner+" then "+inner+" else "+inner, "if "+inner+" then "+inner+" else "+inner)
		expectExpr(t, "case "+inner+" of nil->"+inner+"|a:b->"+inner, "case "+inner+" of nil -> "+inner+" | a:b -> "+inner)
		expectExpr(t, "let q B="+inner+" in "+inner, "let q B = "+inner+" in "+inner)
		expectExpr(t, "strict q B="+inner+" in "+inner, "strict q B = "+inner+" in "+inner)
	}
}

func TestOperands(t *testing.T) {
	for _, r := range [][2]string{
		{"1-2-3", "1 - 2 - 3"}, {"(1-2)-3", "1 - 2 - 3"}, {"1-(2-3)", "1 - (2 - 3)"}, {"1+(2+3)", "1 + (2 + 3)"}, {"1+2-3+4", "1 + 2 - 3 + 4"},
		{"1*2/3", "1 * 2 / 3"}, {"1*(2/3)", "1 * (2 / 3)"}, {"1/(2*3)", "1 / (2 * 3)"}, {"(1/2)*3", "1 / 2 * 3"},
		{"1+2*3", "1 + 2 * 3"}, {"(1+2)*3", "(1 + 2) * 3"}, {"1*(2-3)", "1 * (2 - 3)"}, {"(1*2)-(3/4)", "1 * 2 - 3 / 4"},
		{"(1+2)<(3*4)", "1 + 2 < 3 * 4"}, {"(1<2)<3", "(1 < 2) < 3"}, {"1==(2==3)", "1 == (2 == 3)"}, {"(1:2)==(3:4)", "(1 : 2) == (3 : 4)"},
		{"(1<2)+(3==4)", "(1 < 2) + (3 == 4)"}, {"(1<2)*3", "(1 < 2) * 3"},
		{"1:2:3", "1 : 2 : 3"}, {"1:(2:3)", "1 : 2 : 3"}, {"(1:2):3", "(1 : 2) : 3"}, {"(1<2):(3==4)", "1 < 2 : 3 == 4"}, {"(1+2):(3*4):nil", "1 + 2 : 3 * 4 : nil"},
		{"(1:nil)+2", "(1 : nil) + 2"}, {"1*(2:nil)", "1 * (2 : nil)"},
		{"1:(let x L=nil in x)", "1 : (let x L = nil in x)"}, {"(strict x N=1 in x):nil", "(strict x N = 1 in x) : nil"},
		{"1<(if x then 2 else 3)", "1 < (if x then 2 else 3)"}, {"(case x of nil->1|h:t->2)/3", "(case x of nil -> 1 | h:t -> 2) / 3"},
	} {
		expectExpr(t, r[0], r[1])
	}
}

func TestWordedExpressions(t *testing.T) {
	for _, r := range [][2]string{
		{"let x B=1 in x:y", "let x B = 1 in x : y"}, {"(let x N=1 in x):y", "(let x N = 1 in x) : y"},
		{"strict x L=(let y N=1 in y) in (let z B=2 in z)", "strict x L = let y N = 1 in y in let z B = 2 in z"},
		{"if (if a then b else c) then (if d then e else f) else (if g then h else i)", "if if a then b else c then if d then e else f else if g then h else i"},
		{"case a of nil->(case b of nil->c|d:e->f)|g:h->(case i of nil->j|k:k->l)", "case a of nil -> case b of nil -> c | d:e -> f | g:h -> case i of nil -> j | k:k -> l"},
		{"case (case a of nil->b|c:d->e) of nil->1|f:g->2", "case case a of nil -> b | c:d -> e of nil -> 1 | f:g -> 2"},
	} {
		expectExpr(t, r[0], r[1])
	}
}

func TestEveryPartAtEveryPlace(t *testing.T) {
	for _, e := range smallExprs() {
		if got, want := Expr(e), exprByForm(e, 0); got != want {
			t.Fatalf("%v: %q, not %q", e, got, want)
		}
	}
}

func TestDrawnPrograms(t *testing.T) {
	for _, p := range drawPrograms(52, 3000, 120) {
		if got, want := Program(p), programByForm(p); got != want {
			t.Fatalf("%v: %q, not %q", p, got, want)
		}
		for _, f := range p.Funcs {
			if got, want := Expr(f.Body), exprByForm(f.Body, 0); got != want {
				t.Fatalf("%v: %q, not %q", f.Body, got, want)
			}
		}
	}
}

// Parts may be nested 2^16 deep, and each text is written in time that grows with it alone.
func TestDeepExpressions(t *testing.T) {
	const deep = 1<<16 - 1
	one := api.Expr{Op: api.OpNum, Num: 1}
	for _, r := range []struct {
		op         api.Op
		at, of     int
		open, shut string
	}{
		{api.OpAdd, 0, 2, "", " + 1"}, {api.OpAdd, 1, 2, "1 + (", ")"}, {api.OpQuo, 0, 2, "", " / 1"}, {api.OpCons, 1, 2, "1 : ", ""}, {api.OpCons, 0, 2, "(", ") : 1"},
		{api.OpCall, 0, 1, "g(", ")"}, {api.OpRe, 0, 1, "re(", ")"}, {api.OpIf, 2, 3, "if 1 then 1 else ", ""}, {api.OpLet, 0, 2, "let g N = ", " in 1"},
		{api.OpStrict, 1, 2, "strict g N = 1 in ", ""}, {api.OpCase, 1, 3, "case 1 of nil -> ", " | g:t -> 1"},
	} {
		e := one
		for range deep {
			outer := api.Expr{Op: r.op, Name: "g", Tail: "t", Type: api.TypeN, Args: make([]api.Expr, r.of)}
			for i := range outer.Args {
				outer.Args[i] = one
			}
			outer.Args[r.at] = e
			e = outer
		}
		want := strings.Repeat(r.open, deep) + "1" + strings.Repeat(r.shut, deep)
		if strings.HasSuffix(r.open, "(") && r.op != api.OpCall && r.op != api.OpRe {
			// The innermost one is a number, and stands in no brackets.
			want = strings.Replace(want, "(1)", "1", 1)
		}
		if got := Expr(e); got != want {
			t.Errorf("%s1%s: %d bytes, not %d", r.open, r.shut, len(got), len(want))
		}
		if got := Program(api.Program{Funcs: []api.Func{{Name: "f", Type: api.TypeN, Body: e}}}); got != "f(): N = "+want+";\n" {
			t.Errorf("%s1%s: the program has %d bytes", r.open, r.shut, len(got))
		}
	}
}

// Of what is not sound in its shape only this is promised.
func TestOtherShapesEnd(t *testing.T) {
	for op := api.Op(-1); op <= api.OpStrict+2; op++ {
		for n := range 5 {
			e := api.Expr{Op: op, Type: 7, Num: complex(math.NaN(), math.Copysign(0, -1)), Args: make([]api.Expr, n)}
			Expr(e)
			Expr(api.Expr{Op: api.OpMul, Args: []api.Expr{e, e}})
			Program(api.Program{Funcs: []api.Func{{Body: e, Type: -1, Params: []api.Param{{}, {Type: 9}}}, {}}})
		}
	}
}
