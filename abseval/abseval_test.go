package abseval

import (
	"math"
	"slices"
	"strings"
	"testing"

	"fathom/api"
)

// shop is functions whose tables are written out below; not all of them are what their bodies make of them.
const shop = "f(x N,y N):N=x; g(l L):L=l; s(l L):L=l; n():N=n(); b(x N,y B,l L):B=y;"

func shopTables() []api.Table {
	return []api.Table{table("NNN", "0011"), table("LL", "0123"), table("LL", "1233"), table("N", "0"), table("NBLB", "0000000100000011")}
}

// bindsOf are names, as in "x N 1, l L 2".
func bindsOf(text string) []api.Bind {
	var all []api.Bind
	for x := range strings.SplitSeq(text, ", ") {
		if name, rest, found := strings.Cut(x, " "); found {
			all = append(all, api.Bind{Name: name, Type: typesOf(rest[:1])[0], Point: api.Point(rest[2] - '0')})
		}
	}
	return all
}

// shopNames are names of all types and points.
const shopNames = "v N 0, x N 1, w B 0, y B 1, a L 0, l L 1, m L 2, k L 3"

// expectAll holds all expressions of a text, with semicolons between them, to a point.
func expectAll(t *testing.T, want api.Point, texts string) {
	t.Helper()
	p, tables, names := programOf(t, shop), shopTables(), bindsOf(shopNames)
	for text := range strings.SplitSeq(texts, ";") {
		if got, e := Expr(p, tables, names, exprOf(t, text)); got != want || e != api.OK {
			t.Errorf("%s: %d, %v; not %d", strings.TrimSpace(text), got, e, want)
		}
	}
}

// P17.1

func TestPlain(t *testing.T) {
	expectAll(t, 0, "fail N; fail B; fail L; v; w; a")
	expectAll(t, 1, "0; 1; 2i; true; false; x; y; l")
	expectAll(t, 2, "m")
	expectAll(t, 3, "nil; k")
}

func TestOperations(t *testing.T) {
	expectAll(t, 0, "v+1; 1+v; v-x; x-v; v*0; 0*v; v/x; x/v; v==v; x==v; v==x; v<x; x<v; not(w); re(v); im(v); conj(v); (x+v)+x; x*fail N; not(not(fail B))")
	expectAll(t, 1, "x+2; x-x; 2*x; x/x; x/0; x==x; x<0; not(y); re(x); im(2i); conj(x); 1+(2*x); not(not(y))")
}

func TestConses(t *testing.T) {
	expectAll(t, 1, "1:l; v:l; 1:a; v:a; 1:fail L; fail N:fail L; v:v:l; 1:2:fail L; x:(1:l)")
	expectAll(t, 2, "x:m; v:m; v:k; v:nil; fail N:nil; 1:v:nil; v:1:nil; fail N:1:nil; 1:2:n():k")
	expectAll(t, 3, "x:k; 1:nil; 1:2:3:nil; x:x:nil")
}

func TestCalls(t *testing.T) {
	expectAll(t, 0, "f(v,x); f(fail N,x); f(v,v); f(f(v,x),x); g(a); n(); n()+1; b(v,y,m); b(x,w,m); b(x,y,l); b(x,y,a); b(v,y,l); b(v,w,k); b(x,w,k); g(g(fail L))")
	expectAll(t, 1, "f(x,v); f(x,x); f(x,fail N); f(1,f(v,v)); g(l); g(1:l); g(1:fail L); s(a); b(x,y,k); b(x,y,m); b(v,y,k); b(f(v,x),not(b(x,y,m)),g(k))")
	expectAll(t, 2, "g(m); g(fail N:nil); s(l); s(1:l); s(v:l); s(s(a)); s(1:v:a)")
	expectAll(t, 3, "g(k); g(nil); s(m); s(k); s(s(l)); s(s(s(a)))")
}

func TestIfs(t *testing.T) {
	expectAll(t, 0, "if w then 1 else 2; if fail B then nil else k; if y then v else fail N; if v==x then 1 else 1; if y then (if w then 1 else 1) else v")
	expectAll(t, 1, "if y then 1 else 2; if y then v else x; if y then x else v; if true then fail N else x; if false then x else fail N; if y then l else a; if (if y then w else y) then 1 else v")
	expectAll(t, 2, "if y then l else m; if y then m else l; if y then a else m")
	expectAll(t, 3, "if y then k else a; if y then a else k; if y then m else k; if false then k else l")
}

func TestCases(t *testing.T) {
	expectAll(t, 0, `case a of nil->1|h:t->1; case a of nil->k|h:t->t; case (fail L) of nil->nil|h:t->t; case l of nil->1|h:t->v; case m of nil->1|h:t->fail N; case k of nil->v|h:t->fail N;
		case l of nil->x|h:t->h*v; case m of nil->1|h:t->h*v; case l of nil->k|h:t->g(fail L)`)
	expectAll(t, 1, `case l of nil->v|h:t->h; case l of nil->k|h:t->t; case m of nil->v|h:t->h; case m of nil->1|h:t->1; case k of nil->1|h:t->v; case k of nil->v|h:t->1; case k of nil->v|h:t->h;
		case k of nil->l|h:t->a; case l of nil->k|h:t->h:t; case (case l of nil->k|h:t->t) of nil->v|h:t->h`)
	expectAll(t, 2, `case m of nil->l|h:t->h:t; case m of nil->k|h:t->h:t; case m of nil->k|h:t->h:1:t; case k of nil->m|h:t->l; case k of nil->l|h:t->m; case k of nil->a|h:t->v:t;
		case m of nil->k|h:t->case t of nil->h:nil|i:u->i:h:u`)
	expectAll(t, 3, `case m of nil->l|h:t->t; case m of nil->a|h:t->nil; case l of nil->m|h:t->1:nil; case k of nil->l|h:t->h:t; case k of nil->l|h:t->t; case k of nil->k|h:t->a; case k of nil->nil|h:t->fail L;
		case m of nil->l|h:t->h:nil; case k of nil->nil|h:t->fail L; case m of nil->a|h:t->case t of nil->k|i:u->a`)
}

// Of a head and a tail of one name the tail counts; what is bound in a case is bound in its third part alone.
func TestNamesOfCases(t *testing.T) {
	expectAll(t, 1, "case l of nil->1:a|z:z->z; case 1:l of nil->k|k:k->k; case x:k of nil->v|v:k->v; case l of nil->v|x:a->x")
	expectAll(t, 2, "case k of nil->m|v:m->1:a; case m of nil->l|z:z->v:z; case m of nil->a|z:l->z:l")
	expectAll(t, 3, "case k of nil->k|k:l->a; case m of nil->a|z:z->z; case k of nil->a|m:a->a; case (case l of nil->k|l:k->l:k) of nil->a|h:t->k")
}

func TestLets(t *testing.T) {
	expectAll(t, 0, `let z N=v in z; let z N=z in z; let z N=z+1 in z; let z B=not(z) in z; let z L=z in z; let z L=g(z) in z; let z N=1 in v; let z N=fail N in let u N=z in u;
		let z N=if y then z else v in z; let z L=case z of nil->k|h:t->k in z; let x N=x in x; let k L=a in k`)
	expectAll(t, 1, `let z L=1:z in z; let z L=v:z in z; let z N=1 in z; let z N=fail N in 1; let z N=v in x; let z N=z in x; let z B=true in z; let z L=1:g(z) in g(z); let z N=x in let z N=v in x;
		let v N=1 in v; let z N=if y then z else 1 in z; let z L=case z of nil->k|h:t->1:z in 1:z; let z L=if y then z else l in z`)
	expectAll(t, 2, "let z L=m in z; let z L=v:nil in z; let z N=v in z:nil; let z L=if y then v:z else v:nil in z; let a L=fail N:nil in a; let z L=if y then 1:z else m in z; let z N=z in z:k")
	expectAll(t, 3, `let z L=nil in z; let z L=k in z; let z L=s(z) in z; let z L=1:s(s(z)) in z; let z L=m in k; let z N=x in z:k; let z L=s(s(z)) in z; let z L=if y then 1:z else nil in z;
		let z L=case z of nil->k|h:t->s(z) in k`)
}

// A let goes up to the least point that holds by whatever table: from 0 on as often as what comes next is greater.
func TestEachTableOfALet(t *testing.T) {
	for n := range 256 {
		points := []api.Point{api.Point(n & 3), api.Point(n >> 2 & 3), api.Point(n >> 4 & 3), api.Point(n >> 6)}
		want := api.Point(0)
		for range 9 {
			want = max(want, points[want])
		}
		p := programOf(t, "g(l L):L=let z L=g(z) in z;")
		if got, e := Body(p, []api.Table{pack(typesOf("L"), api.TypeL, points...)}, 0, []api.Point{3}); got != want || e != api.OK {
			t.Errorf("%v: %d, %v; not %d", points, got, e, want)
		}
	}
	for _, letter := range []string{"N", "B"} {
		for points, want := range map[string]api.Point{"00": 0, "01": 0, "10": 1, "11": 1} {
			p := programOf(t, strings.ReplaceAll("g(x N):N=let z N=g(z) in z;", "N", letter))
			if got, e := Body(p, []api.Table{table(letter+letter, points)}, 0, []api.Point{1}); got != want || e != api.OK {
				t.Errorf("%s %s: %d, %v; not %d", letter, points, got, e, want)
			}
		}
	}
}

func TestStricts(t *testing.T) {
	expectAll(t, 0, "strict z N=v in 1; strict z L=a in nil; strict z N=x in v; strict z N=x in strict u N=z*v in 1; strict z N=n() in 1; strict z B=w in true; strict x N=v in x")
	expectAll(t, 1, "strict z N=1 in z; strict z N=x in 1; strict z B=y in z; strict z L=l in z; strict z L=l in 1; strict z L=1:l in z; strict z L=v:l in 1; strict x N=x in x; strict v N=x in v; strict a L=l in a; strict z L=m in x")
	expectAll(t, 2, "strict z L=m in z; strict z L=v:nil in g(z); strict z L=l in m; strict z N=x in v:k; strict l L=s(l) in l")
	expectAll(t, 3, "strict z L=k in z; strict z L=l in k; strict z N=x in z:nil; strict m L=s(m) in m; strict z L=s(s(a)) in s(z)")
}

// Where a name stands twice, the last one counts, with its type.
func TestNamesTwice(t *testing.T) {
	p, tables := programOf(t, shop), shopTables()
	for _, r := range []struct {
		names, text string
		want        api.Point
	}{
		{"x N 0, x N 1", "x", 1}, {"x N 1, x N 0", "x", 0}, {"x L 3, x N 0, x N 1", "x+1", 1}, {"x N 1, x L 2", "g(x)", 2}, {"x N 1, x B 1, x L 2, x L 0", "case x of nil->1|h:t->1", 0},
		{"x N 1, y L 2, x L 3", "1:y", 2}, {"", "nil", 3}, {"y N 0", "1", 1},
	} {
		if got, e := Expr(p, tables, bindsOf(r.names), exprOf(t, r.text)); got != r.want || e != api.OK {
			t.Errorf("%s with %s: %d, %v; not %d", r.text, r.names, got, e, r.want)
		}
	}
}

// A program may be without functions.
func TestNoFunctions(t *testing.T) {
	if got, e := Expr(api.Program{}, nil, bindsOf("x N 1"), exprOf(t, "x:nil")); got != 3 || e != api.OK {
		t.Error(got, e)
	}
	if _, e := Expr(api.Program{}, nil, nil, exprOf(t, "f()")); e != api.ErrShape {
		t.Error(e)
	}
	if _, e := Expr(api.Program{}, shopTables()[:1], nil, exprOf(t, "1")); e != api.ErrShape {
		t.Error(e)
	}
	if _, e := Body(api.Program{}, nil, 0, nil); e != api.ErrRange {
		t.Error(e)
	}
	if x, e := Round(api.Program{}, nil, 0); e != api.ErrRange || !sameTable(x, api.Table{}) {
		t.Error(x, e)
	}
}

func expectError(t *testing.T, p api.Program, tables []api.Table, names []api.Bind, e api.Expr, want api.Errno) {
	t.Helper()
	if got, why := Expr(p, tables, names, e); got != 0 || why != want {
		t.Errorf("Expr of %v, %v, %v, %v: %d, %v; not %v", p, tables, names, e, got, why, want)
	}
}

func expectFunctionErrors(t *testing.T, p api.Program, tables []api.Table, i int, tuple []api.Point, want api.Errno) {
	t.Helper()
	if got, why := Body(p, tables, i, tuple); got != 0 || why != want {
		t.Errorf("Body of %v, %v, %d, %v: %d, %v; not %v", p, tables, i, tuple, got, why, want)
	}
	if got, why := Round(p, tables, i); !sameTable(got, api.Table{}) || why != want {
		t.Errorf("Round of %v, %v, %d: %v, %v; not %v", p, tables, i, got, why, want)
	}
}

func TestUnsoundPrograms(t *testing.T) {
	one := api.Expr{Op: api.OpNum, Num: 1}
	var all []api.Program
	for _, text := range []string{
		"f(x N):N=x;f(x N):N=x;", "f(x N):N=y;g(x N):N=x;", "f(x N):N=h(x);g(x N):N=x;", "f(x N):N=f(x,x);g(x N):N=x;", "f(x N):N=x;g(x N):N=true;", "f(x N):N=x;g(x N):N=1:nil;", "f(x N):N=strict y N=y in 1;g(x N):N=x;",
	} {
		all = append(all, programOf(t, text))
	}
	for _, e := range []api.Expr{{}, {Op: 99}, {Op: api.OpAdd}, {Op: api.OpAdd, Args: []api.Expr{one}}, {Op: api.OpAdd, Args: []api.Expr{one, one, one}}, {Op: api.OpNum, Args: []api.Expr{one}}, {Op: api.OpIf, Args: []api.Expr{{Op: api.OpTrue}, one}}, {Op: api.OpCase}} {
		p := programOf(t, "f(x N):N=x;g(x N):N=x;")
		p.Funcs[1].Body = e
		all = append(all, p)
	}
	tables := []api.Table{table("NN", "01"), table("NN", "01")}
	for _, p := range all {
		expectError(t, p, tables, nil, one, api.ErrShape)
		for _, i := range []int{0, 1, -1, 2} {
			expectFunctionErrors(t, p, tables, i, []api.Point{1}, api.ErrShape)
			expectFunctionErrors(t, p, tables, i, []api.Point{9, 9}, api.ErrShape)
		}
	}
}

func TestTablesThatDontFit(t *testing.T) {
	p := programOf(t, "f(x N,l L):N=x;g():L=nil;d(x B):N=let a N=let a N=let a N=let a N=let a N=let a N=let a N=1 in a in a in a in a in a in a in a;")
	good := []api.Table{table("NLN", "00001111"), table("L", "3"), table("BN", "11")}
	if got, e := Expr(p, good, nil, exprOf(t, "f(1,g())")); got != 1 || e != api.OK {
		t.Fatal(got, e)
	}
	all := [][]api.Table{nil, {}, good[:2], append(slices.Clone(good), good[2]), {good[1], good[0], good[2]}, {{}, {}, {}}}
	for i, others := range [][]api.Table{
		{{}, table("NN", "01"), table("LNN", "00001111"), table("NLB", "00001111"), table("NLL", "00001111"), table("LN", "0011"), table("NLNN", "0000111100001111"), table("NLN", "00002111"), table("NLN", "00001113"), table("NLN", "0000111"), table("NLN", "000011111"), table("NBN", "0011"), table("BLN", "00001111")},
		{{}, table("N", "1"), table("B", "0"), table("LL", "0123"), table("L", ""), table("L", "00"), {Type: api.TypeL, Row: api.Row{N: 1}}, {Type: api.TypeL, Row: api.Row{N: 1, Bits: []uint64{4}}}, {Type: api.TypeL, Row: api.Row{N: 1, Bits: []uint64{3, 0}}}, {Type: 4, Row: api.Row{N: 1, Bits: []uint64{3}}}},
		{{}, table("NN", "11"), table("BB", "11"), table("N", "1"), table("BN", "12"), {Params: []api.Type{0}, Type: api.TypeN, Row: api.Row{N: 2, Bits: []uint64{0}}}},
	} {
		for _, other := range others {
			tables := slices.Clone(good)
			tables[i] = other
			all = append(all, tables)
		}
	}
	for _, tables := range all {
		expectError(t, p, tables, nil, exprOf(t, "1"), api.ErrShape)
		for i, tuple := range map[int][]api.Point{0: {1, 3}, 1: nil, 2: {1}, -1: nil, 3: {7}} {
			expectFunctionErrors(t, p, tables, i, tuple, api.ErrShape)
		}
	}
}

// Of a function with a type that is none, or with too many tuples, no table fits.
func TestNoTableFits(t *testing.T) {
	none := programOf(t, "f(x N):N=1;")
	none.Funcs[0].Params[0].Type = 0
	wide := programOf(t, "f(a L,b L,c L,d L,e L,f L,g L):N=1;")
	for _, p := range []api.Program{none, wide} {
		kinds := kindsOf(p.Funcs[0])
		for _, cells := range []int{0, 1, 2, 4096, 1 << 14} {
			tables := []api.Table{pack(kinds, api.TypeN, make([]api.Point, cells)...)}
			expectError(t, p, tables, nil, exprOf(t, "1"), api.ErrShape)
			expectFunctionErrors(t, p, tables, 0, make([]api.Point, len(kinds)), api.ErrShape)
		}
	}
}

func TestNamesThatDontFit(t *testing.T) {
	p, tables := programOf(t, shop), shopTables()
	one, deep := exprOf(t, "1"), exprOf(t, strings.Repeat("let z N=1 in ", 7)+"1")
	for _, x := range []api.Bind{
		{Name: "x"}, {Name: "x", Type: 4}, {Name: "x", Type: -1}, {Name: "x", Type: math.MaxInt}, {Name: "x", Type: 1, Point: 2}, {Name: "x", Type: 1, Point: 3}, {Name: "x", Type: 1, Point: -1}, {Name: "x", Type: 2, Point: 2}, {Name: "x", Type: 2, Point: -1},
		{Name: "x", Type: 3, Point: 4}, {Name: "x", Type: 3, Point: -1}, {Name: "x", Type: 3, Point: math.MaxInt}, {Name: "x", Type: 3, Point: math.MinInt}, {Name: "x", Type: 0, Point: 1},
	} {
		good := api.Bind{Name: "x", Type: api.TypeN, Point: 1}
		for _, names := range [][]api.Bind{{x}, {good, x}, {x, good}, {{Name: "a", Type: api.TypeL, Point: 3}, x, good}} {
			expectError(t, p, tables, names, one, api.ErrShape)
			expectError(t, p, tables, names, deep, api.ErrShape)
		}
	}
}

func TestExpressionsWithoutAType(t *testing.T) {
	p, tables, names := programOf(t, shop), shopTables(), bindsOf(shopNames)
	for text := range strings.SplitSeq("z; x0; 1+true; not(1); 1:1; nil:nil; if 1 then 2 else 3; if true then 1 else nil; case 1 of nil->1|h:t->2; case nil of nil->1|h:t->t; let z N=true in 1; let z N=1 in not(z); strict z N=z in 1; strict z L=1 in 1; "+
		"f(1); f(1,2,3); f(1,true); f(nil,1); g(1); h(); q(1); n(1); n():n(); x+y; not(x); l+1; case x of nil->1|h:t->1; (case l of nil->1|h:t->h)+h; let q N=1 in q(1); "+strings.Repeat("let z N=1 in ", 7)+"q; "+strings.Repeat("let z N=1 in ", 7)+"1+true", "; ") {
		expectError(t, p, tables, names, exprOf(t, text), api.ErrShape)
	}
	// A name has the type of the last one of it.
	expectError(t, p, tables, bindsOf("x N 1, x L 3"), exprOf(t, "x+1"), api.ErrShape)
	expectError(t, p, tables, nil, exprOf(t, "x+1"), api.ErrShape)
	one := api.Expr{Op: api.OpNum}
	for _, e := range []api.Expr{{}, {Op: 23}, {Op: api.OpAdd, Args: []api.Expr{one}}, {Op: api.OpNum, Args: []api.Expr{one}}, {Op: api.OpNot}, {Op: api.OpCons, Args: []api.Expr{one}}, {Op: api.OpCase}, {Op: api.OpLet, Type: api.TypeN, Args: []api.Expr{one}}} {
		expectError(t, p, tables, names, e, api.ErrShape)
		expectError(t, p, tables, names, api.Expr{Op: api.OpIf, Args: []api.Expr{{Op: api.OpTrue}, e, e}}, api.ErrShape)
	}
}

// nest is so many of a form within one another, around a 1.
func nest(form string, deep int) string {
	text := "1"
	for range deep {
		text = strings.Replace(form, "%", text, 1)
	}
	return text
}

func TestNest(t *testing.T) {
	tables := append(shopTables(), table("NN", "01"), table("N", "1"))
	for _, form := range []string{
		"let z N=(%) in 1", "let z N=1 in %", "strict z N=(%) in 1", "strict z N=1 in %", "case (%):nil of nil->1|h:t->1", "case nil of nil->(%)|h:t->1", "case nil of nil->1|h:t->%",
		"1+(let z N=2 in if true then % else z)", "f(1,case nil of nil->1|h:t->strict y N=% in y)", "if 1<(let z N=% in z) then 1 else 2",
	} {
		for deep := range 10 {
			text := nest(form, deep)
			p := programOf(t, shop+"d(x N):N="+text+";e():N=d(1);")
			want, point := api.OK, api.Point(1)
			if deep*(strings.Count(form, "=")+strings.Count(form, "case")) > api.MaxNest {
				want, point = api.ErrNest, 0
			}
			if got, e := Expr(p, tables, nil, exprOf(t, text)); got != point || e != want {
				t.Errorf("Expr of %s: %d, %v; not %d, %v", text, got, e, point, want)
			}
			if got, e := Body(p, tables, 5, []api.Point{0}); got != point || e != want {
				t.Errorf("Body of %s: %d, %v; not %d, %v", text, got, e, point, want)
			}
			if got, e := Round(p, tables, 5); e != want || e == api.OK && !sameTable(got, table("NN", "11")) || e != api.OK && !sameTable(got, api.Table{}) {
				t.Errorf("Round of %s: %v, %v; not %v", text, got, e, want)
			}
			// What the other functions nest counts for nothing.
			if got, e := Expr(p, tables, nil, exprOf(t, "d(e())")); got != 1 || e != api.OK {
				t.Errorf("Expr beside %s: %d, %v", text, got, e)
			}
			if got, e := Body(p, tables, 6, nil); got != 1 || e != api.OK {
				t.Errorf("Body beside %s: %d, %v", text, got, e)
			}
			if got, e := Round(p, tables, 6); !sameTable(got, table("N", "1")) || e != api.OK {
				t.Errorf("Round beside %s: %v, %v", text, got, e)
			}
		}
	}
}

// P17.2

func TestBody(t *testing.T) {
	p := programOf(t, shop+"h(x N,l L):N=case l of nil->x|h:t->h+h(x,t);")
	tables := append(shopTables(), table("NLN", "00001111"))
	for _, r := range []struct {
		i     int
		tuple string
		want  api.Point
	}{
		{0, "00", 0}, {0, "01", 0}, {0, "10", 1}, {0, "11", 1}, {1, "0", 0}, {1, "1", 1}, {1, "2", 2}, {1, "3", 3}, {2, "1", 1}, {3, "", 0}, {4, "003", 0}, {4, "010", 1}, {4, "111", 1},
		{5, "00", 0}, {5, "01", 0}, {5, "02", 0}, {5, "03", 0}, {5, "10", 0}, {5, "11", 1}, {5, "12", 1}, {5, "13", 1},
	} {
		var tuple []api.Point
		for _, c := range r.tuple {
			tuple = append(tuple, api.Point(c-'0'))
		}
		if got, e := Body(p, tables, r.i, tuple); got != r.want || e != api.OK {
			t.Errorf("%d at %s: %d, %v; not %d", r.i, r.tuple, got, e, r.want)
		}
	}
}

func TestNoSuchFunction(t *testing.T) {
	p, tables := programOf(t, shop), shopTables()
	for _, i := range []int{-1, 5, 6, math.MinInt, math.MaxInt} {
		for _, tuple := range [][]api.Point{nil, {0}, {1, 1}, {-9, 9, 9, 9}} {
			expectFunctionErrors(t, p, tables, i, tuple, api.ErrRange)
		}
	}
}

// A tuple that doesn't fit is told ahead of a body that nests too deep.
func TestTuplesThatDontFit(t *testing.T) {
	deep := strings.Repeat("let z N=1 in ", 7) + "1"
	p := programOf(t, "f(x N,l L,y B):N=1;g():N=1;d(x N,l L,y B):N="+deep+";e():N="+deep+";")
	of, none := table("NLBN", "0000000000000000"), table("N", "0")
	tables := []api.Table{of, none, of, none}
	for i := 0; i < 4; i += 2 {
		for _, tuple := range [][]api.Point{nil, {0}, {1, 3}, {1, 3, 1, 0}, {9, 9}, make([]api.Point, 99)} {
			if got, e := Body(p, tables, i, tuple); got != 0 || e != api.ErrShape {
				t.Errorf("%d at %v: %d, %v", i, tuple, got, e)
			}
		}
		for _, tuple := range [][]api.Point{{2, 3, 1}, {-1, 0, 0}, {1, 4, 1}, {1, -1, 1}, {1, 3, 2}, {1, 3, -1}, {0, 0, 3}, {math.MinInt, 0, 0}, {0, math.MaxInt, 0}} {
			if got, e := Body(p, tables, i, tuple); got != 0 || e != api.ErrRange {
				t.Errorf("%d at %v: %d, %v", i, tuple, got, e)
			}
		}
		if got, e := Body(p, tables, i+1, []api.Point{0}); got != 0 || e != api.ErrShape {
			t.Errorf("%d at 0: %d, %v", i+1, got, e)
		}
	}
	if got, e := Body(p, tables, 2, []api.Point{1, 3, 1}); got != 0 || e != api.ErrNest {
		t.Error(got, e)
	}
	if got, e := Body(p, tables, 3, nil); got != 0 || e != api.ErrNest {
		t.Error(got, e)
	}
}

// P17.3

func TestRound(t *testing.T) {
	for _, r := range []struct{ text, letters, by, want string }{
		{"f(x N,y N):N=x;", "NNN", "0000", "0011"}, {"f(x N,y N):N=x+y;", "NNN", "1111", "0001"}, {"f(x N,y N):N=f(y,x);", "NNN", "0010", "0100"}, {"f(x B):B=not(x);", "BB", "00", "01"}, {"f():L=nil;", "L", "0", "3"}, {"f():L=1:f();", "L", "2", "2"},
		{"f(x N):L=x:nil;", "NL", "00", "23"}, {"f(l L):L=l;", "LL", "0000", "0123"}, {"f(l L):L=f(l);", "LL", "3120", "3120"}, {"f(l L):N=case l of nil->0|h:t->h+f(t);", "LN", "0000", "0001"}, {"f(l L):N=case l of nil->0|h:t->h+f(t);", "LN", "0001", "0001"},
		{"f(l L):N=case l of nil->0|h:t->h+f(t);", "LN", "1111", "0111"}, {"f(n N):L=n:f(n+1);", "NL", "00", "11"}, {"f(n N):L=n:f(n+1);", "NL", "33", "23"},
		{"f(a L,b L):L=b;", "LLL", "0000000000000000", "0123012301230123"}, {"f(a N,b B,c L):L=strict z B=b in a:c;", "NBLL", "0000000000000000", "0000112200001123"},
	} {
		p := programOf(t, r.text)
		if got, e := Round(p, []api.Table{table(r.letters, r.by)}, 0); !sameTable(got, table(r.letters, r.want)) || e != api.OK {
			t.Errorf("%s by %s: %v, %v; not %s", r.text, r.by, cells(got), e, r.want)
		}
	}
}

// Round by round, from noughts on, the tables of layer 18's examples come about.
func TestLeastTables(t *testing.T) {
	for text, want := range map[string]string{
		"f(x N,y N):N=if x==0 then y else f(x-1,y);": "0001", "f(x N,y N):N=if x==0 then 1 else f(x-1,y);": "0011", "f(x N):N=f(x);": "00", "f(l L):N=case l of nil->0|h:t->h+f(t);": "0001", "f(l L):N=case l of nil->0|h:t->1+f(t);": "0011",
		"f(a L,b L):L=case a of nil->b|h:t->h:f(t,b);": "0000111111221123", "f(n N):L=n:f(n+1);": "11", "f(l L):N=case l of nil->fail N|h:t->h;": "0111", "f():N=let x N=x in x;": "0",
	} {
		p := programOf(t, text)
		tables := zeros(p)
		for range 9 {
			next, e := Round(p, tables, 0)
			if e != api.OK {
				t.Fatal(text, e)
			}
			tables = []api.Table{next}
		}
		if f := p.Funcs[0]; !sameTable(tables[0], pack(kindsOf(f), f.Type, cells(table("L", want))...)) {
			t.Errorf("%s: %v, not %s", text, cells(tables[0]), want)
		}
	}
}
