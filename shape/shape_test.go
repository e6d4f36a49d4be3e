package shape

import (
	"testing"

	"fathom/api"
	"fathom/lang"
)

func TestParsedProgramsAreWhole(t *testing.T) {
	for _, text := range []string{
		"f():N=1;", "f(x N,y B,l L):L=if not(y) then re(x):im(x):conj(x):nil else case l of nil->fail L|h:t->t;", "f():B=true==false;", "f(x N):N=let y N=f(1) in strict z N=f(1,2,3)+x-y*z/1 in y<z;",
	} {
		p, fault := lang.Parse([]byte(text), api.Limits{Text: 999, Funcs: 9, Arity: 9, Nest: 9})
		if fault != (api.Fault{}) || !Whole(p) {
			t.Errorf("%s: %v", text, fault)
		}
	}
	if !Whole(api.Program{}) {
		t.Error("of no definition nothing is missing")
	}
}

// How many parts each Op has, at its number; -1 of what is none, -2 of a call, which may have any number.
func TestCounts(t *testing.T) {
	counts := []int{-1, 0, 0, 0, 0, 0, 0, -2, 2, 2, 2, 2, 2, 2, 1, 1, 1, 1, 2, 3, 3, 2, 2, -1}
	for op, count := range counts {
		for n := range 5 {
			e := api.Expr{Op: api.Op(op)}
			for range n {
				e.Args = append(e.Args, api.Expr{Op: api.OpNil})
			}
			for _, body := range []api.Expr{e, {Op: api.OpNot, Args: []api.Expr{e}}, {Op: api.OpCall, Args: []api.Expr{{Op: api.OpTrue}, e}}} {
				p := api.Program{Funcs: []api.Func{{Body: api.Expr{Op: api.OpNum}}, {Body: body}}}
				if want := n == count || count == -2; Whole(p) != want || WholeExpr(&body) != want {
					t.Errorf("Op %d of %d parts: %t", op, n, !want)
				}
			}
		}
	}
}
