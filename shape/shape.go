// Package shape looks at how expressions are made, for layers that go into an expression's parts by their numbers.
package shape

import "fathom/api"

// Whole says whether no part of an expression is missing, and none is too many: what isn't there wants no type, so that
// layer 7 doesn't tell of it, but it would be looked at.
func Whole(p api.Program) bool {
	for i := range p.Funcs {
		if !WholeExpr(&p.Funcs[i].Body) {
			return false
		}
	}
	return true
}

// WholeExpr says the same of one expression.
func WholeExpr(e *api.Expr) bool {
	if e.Op != api.OpCall && len(e.Args) != partsOf(e.Op) {
		return false
	}
	for i := range e.Args {
		if !WholeExpr(&e.Args[i]) {
			return false
		}
	}
	return true
}

// partsOf is how many parts an expression has that is no call; -1 of what is none.
func partsOf(op api.Op) int {
	switch op {
	case api.OpNum, api.OpTrue, api.OpFalse, api.OpNil, api.OpFail, api.OpVar:
		return 0
	case api.OpNot, api.OpRe, api.OpIm, api.OpConj:
		return 1
	case api.OpAdd, api.OpSub, api.OpMul, api.OpQuo, api.OpEq, api.OpLess, api.OpCons, api.OpLet, api.OpStrict:
		return 2
	case api.OpIf, api.OpCase:
		return 3
	}
	return -1
}
