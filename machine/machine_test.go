package machine

import (
	"math"
	"slices"
	"strconv"
	"testing"

	"fathom/api"
	"fathom/value"
)

func told(r api.Result) string {
	s, _ := value.Text(r.Value)
	for _, n := range []int{int(r.Why), r.Moves, r.Thunks, r.Updates, r.Calls} {
		s += " " + strconv.Itoa(n)
	}
	return s
}

// row is a call and what is expected of it; value is "" of what has none.
type row struct {
	text, name, args string
	fuel             int
	why              api.Errno
	value            string
	counts           [4]int // moves, thunks, updates, calls
}

func (r row) result(t *testing.T) api.Result {
	t.Helper()
	want := api.Result{Why: r.why, Moves: r.counts[0], Thunks: r.counts[1], Updates: r.counts[2], Calls: r.counts[3]}
	if r.value != "" {
		want.Value = lineOf(t, r.value)[0].Value
	}
	return want
}

func expectRows(t *testing.T, rows []row) {
	t.Helper()
	for _, r := range rows {
		if got, want := Run(coreOf(t, r.text), r.name, lineOf(t, r.args), r.fuel), r.result(t); !same(got, want) {
			t.Errorf("%s %s %s, %d: %s, not %s", r.text, r.name, r.args, r.fuel, told(got), told(want))
		}
	}
}

func expectCode(t *testing.T, what string, code api.Code, slots int, want api.Result) {
	t.Helper()
	c := api.Core{Supers: []api.Super{{Name: "f", Type: api.TypeN, Slots: slots, Code: code}}}
	if got := Run(c, "f", nil, 99); !same(got, want) {
		t.Errorf("%s: %s, not %s", what, told(got), told(want))
	}
}

// P14.1, P14.2

func TestExamples(t *testing.T) {
	expectRows(t, []row{
		{"f():N=1;", "f", "", 99, api.OK, "1", [4]int{2, 0, 0, 0}},
		{"f(x N):N=x;", "f", "3", 99, api.OK, "3", [4]int{2, 0, 0, 0}},
		{"f(x N):N=x+x;", "f", "3", 99, api.OK, "6", [4]int{6, 0, 0, 0}},
		{"f(x N):N=x+x;g():N=f(1+2);", "g", "", 99, api.OK, "6", [4]int{14, 1, 1, 1}},
		{"f(x N):N=1;g():N=f(fail N);", "g", "", 99, api.OK, "1", [4]int{4, 1, 0, 1}},
		{"f():N=let x N=x in x;", "f", "", 99, api.TrapLoop, "", [4]int{3, 1, 0, 0}},
		{"f():L=1:2:nil;", "f", "", 99, api.OK, "[1 2]", [4]int{9, 1, 1, 0}},
		{"f(l L):L=l;", "f", "[1 2]", 99, api.OK, "[1 2]", [4]int{6, 0, 0, 0}},
		{"f(x N):N=x*x;", "f", "1+2i", 99, api.OK, "-3+4i", [4]int{6, 0, 0, 0}},
		{"f(x N,y N):N=x; g(n N):N=f(n+1,fail N);", "g", "2", 99, api.OK, "3", [4]int{11, 2, 1, 1}},
		{"f(x N,y N):N=x; g(n N):N=strict t1 N=n+1 in f(t1,fail N);", "g", "2", 99, api.OK, "3", [4]int{11, 1, 0, 1}},
		{"f():N=let x N=x+1 in x;", "f", "", 99, api.TrapLoop, "", [4]int{4, 1, 0, 0}},
		{"f(x N):N=if x<1 then fail N else 8/x;", "f", "3", 99, api.TrapDiv, "", [4]int{12, 0, 0, 0}},
		{"f(x N):N=if x<1 then fail N else 8/x;", "f", "4", 99, api.OK, "2", [4]int{13, 0, 0, 0}},
		{"f(x N):N=if x<1 then fail N else 8/x;", "f", "0", 99, api.TrapFail, "", [4]int{8, 0, 0, 0}},
		{"f(x N):N=if x<1 then fail N else 8/x;", "f", "16777216i", 99, api.TrapFail, "", [4]int{8, 0, 0, 0}},
	})
}

// Each form, and each end that can come to it, with its moves counted by hand.
func TestForms(t *testing.T) {
	expectRows(t, []row{
		{"f():B=true;", "f", "", 99, api.OK, "true", [4]int{2, 0, 0, 0}},
		{"f():L=nil;", "f", "", 99, api.OK, "[]", [4]int{2, 0, 0, 0}},
		{"f():N=fail N;", "f", "", 99, api.TrapFail, "", [4]int{1, 0, 0, 0}},
		{"f(b B):B=b;", "f", "false", 99, api.OK, "false", [4]int{2, 0, 0, 0}},
		{"f(l L):L=l;", "f", "[]", 99, api.OK, "[]", [4]int{2, 0, 0, 0}},
		{"f(b B):B=not(b);", "f", "false", 99, api.OK, "true", [4]int{4, 0, 0, 0}},
		{"f(x N):N=re(conj(x))+im(conj(x));", "f", "2+5i", 99, api.OK, "-3", [4]int{14, 0, 0, 0}},
		{"f(x N,y N):N=x-y;", "f", "7 2i", 99, api.OK, "7-2i", [4]int{6, 0, 0, 0}},
		{"f(x N,y N):B=x<y;", "f", "1 2", 99, api.OK, "true", [4]int{6, 0, 0, 0}},
		{"f(x N,y N):B=y<x;", "f", "1 2", 99, api.OK, "false", [4]int{6, 0, 0, 0}},
		{"f(x N,y N):B=x==y;", "f", "1i 1i", 99, api.OK, "true", [4]int{6, 0, 0, 0}},
		{"f(x N):N=x+1;", "f", "16777216", 99, api.TrapOver, "", [4]int{5, 0, 0, 0}},
		{"f(x N):N=fail N+1/0;", "f", "1", 99, api.TrapFail, "", [4]int{2, 0, 0, 0}},
		{"f(x N):N=1/0+fail N;", "f", "1", 99, api.TrapDiv, "", [4]int{6, 0, 0, 0}},
		{"f(b B):N=if b then 1 else 2;", "f", "true", 99, api.OK, "1", [4]int{5, 0, 0, 0}},
		{"f(b B):N=if b then 1 else 2;", "f", "false", 99, api.OK, "2", [4]int{5, 0, 0, 0}},
		{"f(l L):N=case l of nil->0|h:t->h;", "f", "[]", 99, api.OK, "0", [4]int{5, 0, 0, 0}},
		{"f(l L):N=case l of nil->0|h:t->h;", "f", "[4 5]", 99, api.OK, "4", [4]int{5, 0, 0, 0}},
		{"f(l L):L=case l of nil->l|h:t->t;", "f", "[4 5]", 99, api.OK, "[5]", [4]int{7, 0, 0, 0}},
		{"f(l L):L=case l of nil->l|x:x->x;", "f", "[4 5]", 99, api.OK, "[5]", [4]int{7, 0, 0, 0}},
		{"f():N=strict x N=1+1 in x*x;", "f", "", 99, api.OK, "4", [4]int{13, 0, 0, 0}},
		{"f():N=strict x N=fail N in 1;", "f", "", 99, api.TrapFail, "", [4]int{2, 0, 0, 0}},
		{"f():N=strict x L=fail N:fail L in 1;", "f", "", 99, api.OK, "1", [4]int{7, 2, 0, 0}},
		{"f():N=let x N=fail N in 1;", "f", "", 99, api.OK, "1", [4]int{3, 1, 0, 0}},
		{"f():N=let x N=2 in x+x;", "f", "", 99, api.OK, "4", [4]int{9, 1, 1, 0}},
		{"f():L=let l L=1:l in l;", "f", "", 50, api.ErrFuel, "", [4]int{50, 1, 1, 0}},
		{"f():L=1:fail L;", "f", "", 99, api.TrapFail, "", [4]int{5, 1, 0, 0}},
		{"f():L=fail N:fail L;", "f", "", 99, api.TrapFail, "", [4]int{5, 2, 0, 0}},
		{"f():L=1/0:fail L;", "f", "", 99, api.TrapDiv, "", [4]int{9, 2, 0, 0}},
		{"f():N=g();g():N=h();h():N=5;", "f", "", 99, api.OK, "5", [4]int{4, 0, 0, 2}},
		{"sum(l L):N=case l of nil->0|h:t->h+sum(t);", "sum", "[1 2 3]", 99, api.OK, "6", [4]int{29, 0, 0, 3}},
		{"from(n N):L=n:from(n+1); hd(l L):N=case l of nil->fail N|h:t->h; go():N=hd(from(7));", "go", "", 99, api.OK, "7", [4]int{11, 2, 1, 2}},
	})
}

// What is delayed is found once, however often it is needed, and through whichever name.
func TestFoundOnce(t *testing.T) {
	expectRows(t, []row{
		{"f():N=let x N=1+1 in x*x*x;", "f", "", 99, api.OK, "8", [4]int{17, 1, 1, 0}},
		{"f():N=let x N=1+1 in let y N=x in y*y;", "f", "", 99, api.OK, "4", [4]int{16, 2, 2, 0}},
		{"f(x N):N=g(x+1);g(y N):N=h(y)*h(y);h(z N):N=z;", "f", "1", 99, api.OK, "4", [4]int{16, 1, 1, 3}},
		{"f():L=let x N=2*2 in x:x:x:nil;", "f", "", 99, api.OK, "[4 4 4]", [4]int{21, 3, 3, 0}},
	})
}

func TestErrorsInOrder(t *testing.T) {
	right := coreOf(t, "f(x N):N=x;g():L=1:nil;")
	bad := coreOf(t, "f(x N):N=x;g():L=1:nil;")
	bad.Supers[1].Slots++
	for _, fuel := range []int{math.MinInt, -1, 0, 1, 99, math.MaxInt} {
		for _, r := range []struct {
			c    api.Core
			name string
			args []api.Arg
			why  api.Errno
		}{
			{bad, "f", lineOf(t, "1"), api.ErrShape}, {bad, "h", nil, api.ErrShape}, {bad, "f", nil, api.ErrShape}, {api.Core{}, "", nil, api.ErrShape}, {api.Core{Supers: []api.Super{{}}}, "", nil, api.ErrShape},
			{right, "h", nil, api.ErrFunc}, {right, "h", []api.Arg{{Kind: 9}}, api.ErrFunc}, {right, "", nil, api.ErrFunc}, {right, "F", lineOf(t, "1"), api.ErrFunc}, {right, "f ", lineOf(t, "1"), api.ErrFunc}, {right, "ff", lineOf(t, "1"), api.ErrFunc},
			{right, "f", nil, api.ErrArgs}, {right, "f", []api.Arg{}, api.ErrArgs}, {right, "f", lineOf(t, "1 2"), api.ErrArgs}, {right, "f", lineOf(t, "true"), api.ErrArgs}, {right, "g", lineOf(t, "1"), api.ErrArgs}, {right, "g", []api.Arg{{Kind: api.ArgPoison}}, api.ErrArgs},
		} {
			if got := Run(r.c, r.name, r.args, fuel); !same(got, api.Result{Why: r.why}) {
				t.Errorf("%q %v: %s, not %v", r.name, r.args, told(got), r.why)
			}
		}
	}
	for name, want := range map[string]string{"": "1 0 2 0 0 0", "f": "2 0 2 0 0 0", "\xff": "3 0 2 0 0 0"} {
		var c api.Core
		for i, s := range []string{"", "f", "\xff"} {
			c.Supers = append(c.Supers, api.Super{Name: s, Type: api.TypeN, Code: lit(api.Value{Type: api.TypeN, Num: complex(float64(i+1), 0)})})
		}
		if got := told(Run(c, name, nil, 9)); got != want {
			t.Errorf("%q: %s, not %s", name, got, want)
		}
	}
}

func TestFuel(t *testing.T) {
	c := coreOf(t, "f(x N):N=x+x;g():N=f(1+2);")
	for fuel := range 14 {
		got := Run(c, "g", nil, fuel)
		want := api.Result{Why: api.ErrFuel, Moves: fuel, Thunks: min(fuel, 1), Calls: min(fuel/2, 1)}
		if fuel >= 10 {
			want.Updates = 1
		}
		if !same(got, want) {
			t.Errorf("%d: %s, not %s", fuel, told(got), told(want))
		}
	}
	expectRows(t, []row{
		{"f(x N):N=x;", "f", "3", 1, api.ErrFuel, "", [4]int{1, 0, 0, 0}},
		{"f(x N):N=x;", "f", "3", 2, api.OK, "3", [4]int{2, 0, 0, 0}},
		{"f(x N):N=x;", "f", "3", 0, api.ErrFuel, "", [4]int{}},
		{"f(x N):N=x;", "f", "3", -1, api.ErrFuel, "", [4]int{}},
		{"f(x N):N=x;", "f", "3", math.MinInt, api.ErrFuel, "", [4]int{}},
		{"f(x N):N=x;", "f", "3", math.MaxInt, api.OK, "3", [4]int{2, 0, 0, 0}},
		{"f():N=fail N;", "f", "", 0, api.ErrFuel, "", [4]int{}},
		{"f():N=fail N;", "f", "", 1, api.TrapFail, "", [4]int{1, 0, 0, 0}},
		{"f():N=f();", "f", "", 999, api.ErrFuel, "", [4]int{999, 0, 0, 999}},
		{"f():N=f();", "f", "", api.MaxFuel - 1, api.ErrFuel, "", [4]int{api.MaxFuel - 1, 0, 0, api.MaxFuel - 1}},
		{"f():N=f();", "f", "", api.MaxFuel, api.ErrFuel, "", [4]int{api.MaxFuel, 0, 0, api.MaxFuel}},
		{"f():N=f();", "f", "", api.MaxFuel + 1, api.ErrFuel, "", [4]int{api.MaxFuel, 0, 0, api.MaxFuel}},
		{"f():N=f();", "f", "", math.MaxInt, api.ErrFuel, "", [4]int{api.MaxFuel, 0, 0, api.MaxFuel}},
	})
}

func lit(v api.Value) api.Code { return api.Code{Op: api.CodeLit, Lit: v} }

// kinds are codes whose ends are a number, a bool, the empty list and a pair.
func kinds() []api.Code {
	one := api.Atom{Slot: -1, Lit: api.Value{Type: api.TypeN, Num: 1}}
	none := api.Atom{Slot: -1, Lit: api.Value{Type: api.TypeL}}
	return []api.Code{
		lit(one.Lit), lit(api.Value{Type: api.TypeB, Bool: true}), lit(none.Lit), {Op: api.CodeCons, Atoms: []api.Atom{one, none}},
	}
}

const (
	aNumber = iota
	aBool
	anEmpty
	aPair
)

// What comes to an operation, an if or a case is of each kind: of the wrong ones nothing is counted, though moves were made.
func TestKindsThatComeTogether(t *testing.T) {
	shape := api.Result{Why: api.ErrShape}
	for k, end := range kinds() {
		for op := api.OpAdd; op <= api.OpConj; op++ {
			for l, other := range kinds() {
				code, fit := api.Code{Op: api.CodePrim, Prim: op, Args: []api.Code{end, other}}, k == aNumber && l == aNumber
				if op >= api.OpNot {
					code.Args, fit = code.Args[:1], op == api.OpNot && k == aBool || op > api.OpNot && k == aNumber
				}
				if got := Run(api.Core{Supers: []api.Super{{Name: "f", Type: api.TypeL, Code: code}}}, "f", nil, 99); fit != (got.Why == api.OK) || !fit && !same(got, shape) {
					t.Errorf("%d of %d and %d: %s", op, k, l, told(got))
				}
			}
		}
		seven := lit(api.Value{Type: api.TypeN, Num: 7})
		want := shape
		if k == aBool {
			want = api.Result{Value: seven.Lit, Moves: 5}
		}
		expectCode(t, "an if", api.Code{Op: api.CodeIf, Args: []api.Code{end, seven, seven}}, 0, want)
		want = shape
		if k == anEmpty || k == aPair {
			want = api.Result{Value: seven.Lit, Moves: 5}
		}
		expectCode(t, "a case", api.Code{Op: api.CodeCase, Slot2: 1, Args: []api.Code{end, seven, seven}}, 2, want)
		expectCode(t, "a strict", api.Code{Op: api.CodeStrict, Args: []api.Code{end, seven}}, 1, api.Result{Value: seven.Lit, Moves: 5})
		fail := api.Code{Op: api.CodeFail}
		expectCode(t, "a first operand, and a trap", api.Code{Op: api.CodePrim, Prim: api.OpAdd, Args: []api.Code{end, fail}}, 0, api.Result{Why: api.TrapFail, Moves: 4})
	}
}

// Elements and tails of the whole are of each kind, as literals and as what is delayed.
func TestKindsOfElementsAndTails(t *testing.T) {
	all := kinds()
	for k := range all {
		for l := range all {
			code := api.Code{Op: api.CodeLet, Slot: 0, Args: []api.Code{all[k], {Op: api.CodeLet, Slot: 1, Args: []api.Code{all[l], {Op: api.CodeCons, Atoms: []api.Atom{{Slot: 0}, {Slot: 1}}}}}}}
			want := api.Result{Why: api.ErrShape}
			if k == aNumber && l == anEmpty {
				want = api.Result{Value: api.Value{Type: api.TypeL, List: []complex128{1}}, Moves: 10, Thunks: 2, Updates: 2}
			}
			if k == aNumber && l == aPair {
				want = api.Result{Value: api.Value{Type: api.TypeL, List: []complex128{1, 1}}, Moves: 12, Thunks: 2, Updates: 2}
			}
			expectCode(t, "a list of "+strconv.Itoa(k)+" and "+strconv.Itoa(l), code, 2, want)
		}
	}
	for k, end := range all[:aPair] {
		for l, other := range all[:aPair] {
			code := api.Code{Op: api.CodeCons, Atoms: []api.Atom{{Slot: -1, Lit: end.Lit}, {Slot: -1, Lit: other.Lit}}}
			want := api.Result{Why: api.ErrShape}
			if k == aNumber && l == anEmpty {
				want = api.Result{Value: api.Value{Type: api.TypeL, List: []complex128{1}}, Moves: 4}
			}
			expectCode(t, "a pair of literals", code, 0, want)
		}
	}
}

// A function's type says nothing of what its run tells: types of things aren't looked at.
func TestTypesOfThingsAreNotLookedAt(t *testing.T) {
	for kind := api.TypeN; kind <= api.TypeL; kind++ {
		for k, want := range []string{"1 0 2 0 0 0", "true 0 2 0 0 0", "[] 0 2 0 0 0", "[1] 0 4 0 0 0"} {
			c := api.Core{Supers: []api.Super{{Name: "f", Type: kind, Code: kinds()[k]}}}
			if got := told(Run(c, "f", nil, 99)); got != want {
				t.Errorf("%d: %s, not %s", kind, got, want)
			}
		}
	}
	id := api.Super{Name: "id", Params: []api.Type{api.TypeN}, Type: api.TypeB, Slots: 1, Code: api.Code{Op: api.CodeVar}}
	for _, v := range []api.Value{{Type: api.TypeB, Bool: true}, {Type: api.TypeL}, {Type: api.TypeN, Num: 3i}} {
		f := api.Super{Name: "f", Type: api.TypeL, Code: api.Code{Op: api.CodeCall, Atoms: []api.Atom{{Slot: -1, Lit: v}}}}
		if got := Run(api.Core{Supers: []api.Super{id, f}}, "f", nil, 99); !same(got, api.Result{Value: v, Moves: 3, Calls: 1}) {
			t.Errorf("%v: %s", v, told(got))
		}
	}
}

// Fields that an Op doesn't have don't count.
func TestFieldsThatAreNotNamed(t *testing.T) {
	odd := api.Value{Type: 9, Num: 0.5, Bool: true, List: []complex128{7}}
	code := api.Code{Op: api.CodeLit, Slot: 77, Slot2: -5, Func: 9, Prim: api.OpNot, Lit: api.Value{Type: api.TypeN, Num: 4}}
	expectCode(t, "a literal", code, 0, api.Result{Value: code.Lit, Moves: 2})
	cons := api.Code{Op: api.CodeLet, Slot: 0, Slot2: 99, Func: -1, Lit: odd, Args: []api.Code{code, {Op: api.CodeCons, Slot: 5, Func: 9, Lit: odd, Atoms: []api.Atom{{Slot: 0, Lit: odd}, {Slot: -1, Lit: api.Value{Type: api.TypeL}}}}}}
	expectCode(t, "a cons", cons, 1, api.Result{Value: api.Value{Type: api.TypeL, List: []complex128{4}}, Moves: 7, Thunks: 1, Updates: 1})
}

// within binds each slot to its number, the first one outermost; innermost is the first slot less (the next less (.. 0)).
func within(op api.CodeOp, slots []int) api.Code {
	number := func(slot int) api.Code { return lit(api.Value{Type: api.TypeN, Num: complex(float64(slot), 0)}) }
	code := number(0)
	for _, slot := range slices.Backward(slots) {
		code = api.Code{Op: api.CodePrim, Prim: api.OpSub, Args: []api.Code{{Op: api.CodeVar, Slot: slot}, code}}
	}
	for _, slot := range slices.Backward(slots) {
		code = api.Code{Op: op, Slot: slot, Args: []api.Code{number(slot), code}}
	}
	return code
}

// Slots may be many, and be bound in any order of their numbers.
func TestManySlots(t *testing.T) {
	for _, n := range []int{1, 2, 7, 8, 9, 10, 30, 1000} {
		rising := make([]int, n)
		for i := range rising {
			rising[i] = i + 1
		}
		falling := slices.Clone(rising)
		slices.Reverse(falling)
		turned := slices.Concat(rising[n/2:], rising[:n/2])
		for _, slots := range [][]int{rising, falling, turned} {
			want := 0
			for _, slot := range slices.Backward(slots) {
				want = slot - want
			}
			for _, op := range []api.CodeOp{api.CodeLet, api.CodeStrict} {
				c := api.Core{Supers: []api.Super{{Name: "f", Params: []api.Type{api.TypeN}, Type: api.TypeN, Slots: n + 1, Code: within(op, slots)}}}
				got := Run(c, "f", lineOf(t, "99"), 1<<20)
				if got.Why != api.OK || got.Value.Num != complex(float64(want), 0) {
					t.Errorf("%v by %d: %s, not %d", slots, op, told(got), want)
				}
			}
		}
	}
}
