package abseval

import (
	"fathom/api"
	"fathom/points"
	"fathom/shape"
	"fathom/tuples"
	"fathom/types"
)

// has says whether p has a function i: ErrShape, if p isn't sound or the tables don't fit it, and else ErrRange.
func has(p api.Program, tables []api.Table, i int) api.Errno {
	if !fits(p, tables) {
		return api.ErrShape
	}
	if i < 0 || i >= len(p.Funcs) {
		return api.ErrRange
	}
	return api.OK
}

// fits says whether p is sound and the tables fit it.
func fits(p api.Program, tables []api.Table) bool {
	if types.Check(p).Why != api.OK || !shape.Whole(p) || len(tables) != len(p.Funcs) {
		return false
	}
	for i, t := range tables {
		if tuples.Check(t) != api.OK || !isOf(t, p.Funcs[i]) {
			return false
		}
	}
	return true
}

// isOf says whether a table has a function's types.
func isOf(t api.Table, f api.Func) bool {
	if len(t.Params) != len(f.Params) || t.Type != f.Type {
		return false
	}
	for i, param := range f.Params {
		if t.Params[i] != param.Type {
			return false
		}
	}
	return true
}

// haveFit says whether each name has one of the types and a point of it.
func haveFit(names []api.Bind) bool {
	for _, b := range names {
		if points.Check(b.Type, b.Point) != api.OK {
			return false
		}
	}
	return true
}

// stands says whether an expression has a type within names.
func stands(p api.Program, names []api.Bind, e api.Expr) bool {
	env := make([]api.Param, len(names))
	for i, b := range names {
		env[i] = api.Param{Name: b.Name, Type: b.Type}
	}
	_, why := types.Of(p, env, e)
	return why == api.OK && shape.WholeExpr(&e)
}
