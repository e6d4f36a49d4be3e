package mean

import (
	"math"
	"slices"
	"testing"

	"fathom/api"
	"fathom/value"
)

func expect(t *testing.T, p api.Program, name, args string, most int, why api.Errno, text string, cost int) {
	t.Helper()
	want := api.Result{Why: why, Moves: cost}
	if why == api.OK {
		want.Value = lineOf(t, text)[0]
	}
	if got := Call(p, name, lineOf(t, args), most); !same(got, want) {
		s, _ := value.Text(got.Value)
		t.Errorf("%s %s, %d: %v %s %d, not %v %s %d", name, args, most, got.Why, s, got.Moves, why, text, cost)
	}
}

func expectValues(t *testing.T, p api.Program, args []api.Value, why api.Errno, cost int) {
	t.Helper()
	got := Call(p, "f", args, math.MaxInt)
	if got.Why != why || got.Moves != cost {
		t.Errorf("%v %d, not %v %d", got.Why, got.Moves, why, cost)
	}
}

// P11.1, P11.2

func TestExamples(t *testing.T) {
	for _, r := range []struct {
		text, name, args string
		most             int
		why              api.Errno
		value            string
		cost             int
	}{
		{"f(x N):N=x+x;", "f", "3", 99, api.OK, "6", 3},
		{"f(x N):N=1; g():N=f(fail N);", "g", "", 99, api.OK, "1", 2},
		{"f(x N):N=x+x; g():N=f(1+2);", "g", "", 99, api.OK, "6", 10},
		{"f():L=let l L=1:l in l;", "f", "", 5, api.ErrFuel, "", 5},
		{"f():N=case (fail N:nil) of nil->0|h:t->7;", "f", "", 99, api.OK, "7", 3},
		{"f():L=1:2:nil;", "f", "", 99, api.OK, "[1 2]", 5},
		{"f(l L):L=l;", "f", "[1 2i]", 99, api.OK, "[1 2i]", 1},
		{"f():N=strict x N=fail N in 1;", "f", "", 99, api.TrapFail, "", 2},
		{"f():N=1/0;", "f", "", 99, api.TrapDiv, "", 3},
		{"f():N=let x N=x in x;", "f", "", 99, api.ErrFuel, "", 99},
		{"f(x N):N=x;", "f", "", 99, api.ErrArgs, "", 0},
		{"f(x N):N=x;", "f", "true", 99, api.ErrArgs, "", 0},
		{"f(x N):N=x;", "f", "1 2", 99, api.ErrArgs, "", 0},
		{"f(x N):N=x;", "g", "1", 99, api.ErrFunc, "", 0},
		{"f():N=let x N=x+1 in x;", "f", "", api.MaxCost, api.ErrFuel, "", api.MaxCost},
		{"from(n N):L=n:from(n+1); hd(l L):N=case l of nil->fail N|h:t->h; go():N=hd(from(7));", "go", "", 99, api.OK, "7", 8},
	} {
		expect(t, programOf(t, r.text), r.name, r.args, r.most, r.why, r.value, r.cost)
	}
}

// A function of each type of parameter, and names for them; what is looked at is put for its body.
const samples = "n(x N,y B,z L):N=x;b(x N,y B,z L):B=y;l(x N,y B,z L):L=z;k(x N,y B,z L):N=8;"

// Each kind of expression, with x 3, y true, z [5 6i]: its type's letter, its value or trap, how many looks.
func TestEachLook(t *testing.T) {
	for _, r := range []struct {
		kind, body string
		why        api.Errno
		value      string
		cost       int
	}{
		{"N", "7-2i", api.OK, "7-2i", 3}, {"N", "0", api.OK, "0", 1}, {"N", "2i", api.OK, "2i", 1}, {"B", "true", api.OK, "true", 1}, {"B", "false", api.OK, "false", 1}, {"L", "nil", api.OK, "[]", 1},
		{"N", "fail N", api.TrapFail, "", 1}, {"B", "fail B", api.TrapFail, "", 1}, {"L", "fail L", api.TrapFail, "", 1}, {"N", "x", api.OK, "3", 1}, {"B", "y", api.OK, "true", 1}, {"L", "z", api.OK, "[5 6i]", 1},
		{"N", "n(x,y,z)", api.OK, "3", 3}, {"B", "b(x,y,z)", api.OK, "true", 3}, {"L", "l(x,y,z)", api.OK, "[5 6i]", 3}, {"N", "n(x+1,fail B,fail L)", api.OK, "4", 5}, {"N", "n(fail N,y,z)", api.TrapFail, "", 3},
		{"N", "k(fail N,fail B,fail L)", api.OK, "8", 2}, {"L", "l(1/0,1/0==1,nil)", api.OK, "[]", 3},
		{"N", "x+1", api.OK, "4", 3}, {"N", "x-1", api.OK, "2", 3}, {"N", "x*2i", api.OK, "6i", 3}, {"N", "x/3", api.OK, "1", 3}, {"B", "x==3", api.OK, "true", 3}, {"B", "x<3", api.OK, "false", 3},
		{"B", "not(y)", api.OK, "false", 2}, {"N", "re(2-3i)", api.OK, "2", 4}, {"N", "im(2-3i)", api.OK, "-3", 4}, {"N", "conj(2-3i)", api.OK, "2+3i", 4},
		{"N", "x/2", api.TrapDiv, "", 3}, {"N", "x/0", api.TrapDiv, "", 3}, {"N", "16777216+x", api.TrapOver, "", 3}, {"N", "16777216*x", api.TrapOver, "", 3}, {"N", "0-16777216-x", api.TrapOver, "", 5},
		{"N", "fail N+1/0", api.TrapFail, "", 2}, {"N", "1/0+fail N", api.TrapDiv, "", 4}, {"N", "x+fail N", api.TrapFail, "", 3}, {"N", "1/0*16777216*x", api.TrapDiv, "", 5}, {"B", "16777216*x<1/0", api.TrapOver, "", 4},
		{"L", "x:z", api.OK, "[3 5 6i]", 3}, {"L", "fail N:fail L", api.TrapFail, "", 2}, {"L", "x:fail L", api.TrapFail, "", 3}, {"L", "(x/0):fail L", api.TrapDiv, "", 4}, {"L", "x:x:x:nil", api.OK, "[3 3 3]", 7},
		{"N", "if y then 1 else fail N", api.OK, "1", 3}, {"N", "if not(y) then fail N else 2", api.OK, "2", 4}, {"B", "if y then false else y", api.OK, "false", 3}, {"L", "if y then z else nil", api.OK, "[5 6i]", 3},
		{"N", "if fail B then 1 else 2", api.TrapFail, "", 2}, {"N", "if y then fail N else 2", api.TrapFail, "", 3}, {"N", "if x==1 then 1/0 else 2", api.OK, "2", 5}, {"N", "if 1/0==1 then 1 else 2", api.TrapDiv, "", 5},
		{"N", "case z of nil->fail N|h:t->h", api.OK, "5", 3}, {"L", "case z of nil->fail L|h:t->t", api.OK, "[6i]", 3}, {"N", "case nil of nil->9|h:t->fail N", api.OK, "9", 3}, {"N", "case fail L of nil->1|h:t->2", api.TrapFail, "", 2},
		{"N", "case 1/0:fail L of nil->1|h:t->2", api.OK, "2", 3}, {"N", "case 1/0:fail L of nil->1|h:t->h", api.TrapDiv, "", 6}, {"L", "case 1/0:fail L of nil->nil|h:t->t", api.TrapFail, "", 4},
		{"N", "case x+1:nil of nil->1|h:t->h+h", api.OK, "8", 11}, {"N", "case z of nil->1|h:t->case t of nil->2|k:u->case u of nil->h+k|h:t->3", api.OK, "5+6i", 9},
		{"N", "let a N=x+1 in a+a", api.OK, "8", 10}, {"N", "let a N=fail N in 1", api.OK, "1", 2}, {"N", "let a N=fail N in a", api.TrapFail, "", 3}, {"N", "let a N=a in 1", api.OK, "1", 2}, {"B", "let a B=y in a", api.OK, "true", 3},
		{"N", "let a L=1:a in case a of nil->2|h:t->case t of nil->3|k:u->k", api.OK, "1", 10}, {"L", "let a L=z in a", api.OK, "[5 6i]", 3},
		{"N", "strict a N=x+1 in a+a", api.OK, "8", 7}, {"N", "strict a N=x/0 in 1", api.TrapDiv, "", 4}, {"N", "strict a L=1/0:fail L in 1", api.OK, "1", 3}, {"N", "strict a L=1/0:fail L in case a of nil->1|h:t->h", api.TrapDiv, "", 8},
		{"L", "strict a L=z in a", api.OK, "[5 6i]", 3}, {"B", "strict a B=y in not(a)", api.OK, "false", 4}, {"L", "strict a L=x+1:nil in case a of nil->nil|h:t->h:h:a", api.OK, "[4 4 4]", 19}, {"L", "strict a L=nil in a", api.OK, "[]", 3},
	} {
		text := samples + "f(x N,y B,z L):" + r.kind + "=" + r.body + ";"
		p := programOf(t, text)
		got := Call(p, "f", lineOf(t, "3 true [5 6i]"), 99)
		s, _ := value.Text(got.Value)
		if got.Why != r.why || s != r.value || got.Moves != r.cost || got.Thunks+got.Updates+got.Calls != 0 {
			t.Errorf("%s: %v %s %d, not %v %s %d", r.body, got.Why, s, got.Moves, r.why, r.value, r.cost)
		}
		if want := byWords(p, "f", lineOf(t, "3 true [5 6i]"), 99); !same(got, want) {
			t.Errorf("%s: %v, by words %v", r.body, got, want)
		}
	}
}

// What counts of a name is its nearest binding where the thing was written, not where it is looked at.
func TestNames(t *testing.T) {
	for _, r := range []struct {
		body, value string
	}{
		{"let x N=2 in x", "2"}, {"strict x N=x+1 in x", "2"}, {"let y N=x in let x N=5 in y", "1"}, {"let y N=x in strict x N=5 in x+y", "6"}, {"let y N=x in case 7:nil of nil->0|x:t->x+y", "8"},
		{"case 7:nil of nil->x|x:t->x", "7"}, {"case nil of nil->x|x:t->9", "1"}, {"case 7:(8:nil) of nil->0|a:a->case a of nil->0|b:c->b", "8"}, {"(let x N=2 in x)*10+x", "21"}, {"(strict x N=2 in x)*10+x", "21"},
		{"(case 2:nil of nil->0|x:t->x)*10+x", "21"}, {"g(x+1)*10+x", "21"}, {"let x N=2 in let y N=x in let x N=3 in g(y)*100+y*10+x", "223"}, {"let x L=9:x in case x of nil->0|h:t->case t of nil->1|h:x->h", "9"},
		{"h(x+1,x+2)", "23"}, {"let y N=5 in h(y,x)", "51"}, {"case x:x+1:nil of nil->0|h:t->case t of nil->0|k:u->h(k,h)", "21"}, {"let y N=x+1 in let x N=y+1 in x*10+y", "32"}, {"strict x N=x+1 in strict x N=x+1 in x", "3"},
		{"k(1)", "1"}, {"let g N=4 in g(g)", "4"},
	} {
		p := programOf(t, "f(x N):N="+r.body+";g(y N):N=let x N=y in x;h(y N,x N):N=y*10+x;k(k N):N=k;")
		got := Call(p, "f", lineOf(t, "1"), 999)
		if s, _ := value.Text(got.Value); got.Why != api.OK || s != r.value {
			t.Errorf("%s: %v %s, not %s", r.body, got.Why, s, r.value)
		}
	}
}

const lists = "from(n N):L=n:from(n+1);take(n N,l L):L=if n<1 then nil else case l of nil->nil|h:t->h:take(n-1,t);sum(l L):N=case l of nil->0|h:t->h+sum(t);" +
	"app(l L,m L):L=case l of nil->m|h:t->h:app(t,m);nats():L=let l L=1:l in l;map(l L):L=case l of nil->nil|h:t->(h*h):map(t);ones(n N):L=take(n,nats());"

func TestLists(t *testing.T) {
	p := programOf(t, lists+"f(n N):L=take(n,from(3i));g(l L):N=sum(map(app(l,l)));bad():L=take(2,1:fail N:nil);far():L=take(1,1:fail L);")
	for _, r := range []struct{ name, args, value string }{
		{"f", "3", "[3i 1+3i 2+3i]"}, {"f", "0", "[]"}, {"sum", "[1 2 3]", "6"}, {"sum", "[]", "0"}, {"app", "[1 2] [3i]", "[1 2 3i]"}, {"app", "[] [3i 4]", "[3i 4]"}, {"app", "[7] []", "[7]"}, {"g", "[1 2i]", "-6"},
		{"ones", "4", "[1 1 1 1]"}, {"far", "", "[1]"}, {"map", "[1 2 3 1i]", "[1 4 9 -1]"},
	} {
		got := Call(p, r.name, lineOf(t, r.args), api.MaxCost)
		if s, _ := value.Text(got.Value); got.Why != api.OK || s != r.value {
			t.Errorf("%s %s: %v %s", r.name, r.args, got.Why, s)
		}
	}
	for _, name := range []string{"from 1", "nats"} {
		name, args := name[:4], name[4:]
		expect(t, p, name, args, api.MaxCost, api.ErrFuel, "", api.MaxCost)
	}
	if got := Call(p, "bad", nil, 999); got.Why != api.TrapFail || got.Value.Type != 0 || len(got.Value.List) != 0 {
		t.Error(got)
	}
}

// Of several errors the first one named counts.
func TestErrorsInOrder(t *testing.T) {
	good, bad := programOf(t, "f(x N):N=x;g():L=nil;"), programOf(t, "f(x N):N=x;g():L=1;")
	for _, most := range []int{-1, 0, 1, 99} {
		for _, name := range []string{"f", "g", "h", ""} {
			for _, args := range []string{"", "1", "true", "1 1"} {
				expect(t, bad, name, args, most, api.ErrShape, "", 0)
			}
		}
		for _, args := range []string{"", "1", "true", "1 1"} {
			for _, name := range []string{"h", "", "x", "F", "f ", "ff"} {
				expect(t, good, name, args, most, api.ErrFunc, "", 0)
			}
			expect(t, api.Program{}, "f", args, most, api.ErrFunc, "", 0)
		}
		for _, args := range []string{"", "true", "[]", "[1]", "1 1", "1 true", "true 1"} {
			expect(t, good, "f", args, most, api.ErrArgs, "", 0)
		}
		for _, args := range []string{"1", "[]", "[] []"} {
			expect(t, good, "g", args, most, api.ErrArgs, "", 0)
		}
	}
	expect(t, good, "f", "1", 0, api.ErrFuel, "", 0)
	expect(t, good, "f", "1", 1, api.OK, "1", 1)
}

// A program that is not sound: by its names, its counts, its types, anywhere.
func TestNotSound(t *testing.T) {
	for _, text := range []string{
		"f(x N):B=x;", "f(x N):N=y;", "f(x N):N=g(x);", "f(x N):N=f();", "f(x N):N=x;f(x N):N=x;", "f(x N,x N):N=x;", "f(x N):N=x;g():N=true;", "f(x N):N=if true then x else nil;", "f(x N):N=x;g():B=case 1 of nil->true|h:t->true;",
		"f(x N):N=let y B=x in x;", "f(x N):N=1:nil;",
	} {
		expect(t, programOf(t, text), "f", "1", 99, api.ErrShape, "", 0)
	}
}

// What is no value, or none of its parameter's type, at each place.
func TestWrongArguments(t *testing.T) {
	p := programOf(t, "f(x N,y B,z L):N=1;")
	good := lineOf(t, "1 true [2 3i]")
	if got := Call(p, "f", good, 9); !same(got, api.Result{Value: lineOf(t, "1")[0], Moves: 1}) {
		t.Error(got)
	}
	nought := math.Copysign(0, -1)
	for _, v := range []api.Value{
		{}, {Type: 4}, {Type: -1, Num: 1}, {Type: api.TypeN, Num: 0.5}, {Type: api.TypeN, Num: complex(nought, 0)}, {Type: api.TypeN, Num: complex(math.NaN(), 0)}, {Type: api.TypeN, Num: api.Most + 1},
		{Type: api.TypeN, Bool: true}, {Type: api.TypeN, List: []complex128{1}}, {Type: api.TypeB, Num: 1}, {Type: api.TypeB, List: []complex128{1}}, {Type: api.TypeL, Num: 1i}, {Type: api.TypeL, Bool: true},
		{Type: api.TypeL, List: []complex128{1, 0.5}}, {Type: api.TypeL, List: []complex128{complex(0, math.Inf(1))}},
	} {
		for i := range good {
			args := slices.Clone(good)
			args[i] = v
			if got := Call(p, "f", args, 9); !same(got, api.Result{Why: api.ErrArgs}) {
				t.Errorf("%v at %d: %v", v, i, got)
			}
		}
	}
	for i := range good {
		for k := range good {
			args := slices.Clone(good)
			args[i] = good[k]
			if got := Call(p, "f", args, 9); (got.Why == api.ErrArgs) != (i != k) {
				t.Errorf("%v: %v", args, got)
			}
		}
		if got := Call(p, "f", good[:i], 9); !same(got, api.Result{Why: api.ErrArgs}) {
			t.Errorf("%d of them: %v", i, got)
		}
	}
}

// most below 0 counts as 0, above MaxCost as that.
func TestMost(t *testing.T) {
	p := programOf(t, "f():N=1;g():N=g();h():N=1+2;")
	for _, most := range []int{math.MinInt, -1, 0} {
		expect(t, p, "f", "", most, api.ErrFuel, "", 0)
	}
	for _, most := range []int{1, 2, api.MaxCost, api.MaxCost + 1, math.MaxInt} {
		expect(t, p, "f", "", most, api.OK, "1", 1)
		expect(t, p, "g", "", most, api.ErrFuel, "", min(most, api.MaxCost))
	}
	for most := range 3 {
		expect(t, p, "h", "", most, api.ErrFuel, "", most)
	}
	expect(t, p, "h", "", 3, api.OK, "3", 3)
	expect(t, p, "g", "", api.MaxCost-1, api.ErrFuel, "", api.MaxCost-1)
}

// Of a list of n elements this takes 4n + 2 looks, and those of what is behind nil.
func TestCostAtMaxCost(t *testing.T) {
	const n = 4095
	args := []api.Value{{Type: api.TypeL, List: make([]complex128, n)}}
	expectValues(t, programOf(t, "f(l L):N=case l of nil->0|h:t->f(t);"), args, api.OK, 4*n+3)
	expectValues(t, programOf(t, "f(l L):N=case l of nil->conj(0)|h:t->f(t);"), args, api.OK, api.MaxCost)
	expectValues(t, programOf(t, "f(l L):N=case l of nil->conj(conj(0))|h:t->f(t);"), args, api.ErrFuel, api.MaxCost)
	expectValues(t, programOf(t, "f(l L):N=case l of nil->re(fail N)|h:t->f(t);"), args, api.TrapFail, api.MaxCost)
}
