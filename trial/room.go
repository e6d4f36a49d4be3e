package trial

import (
	"slices"

	"fathom/api"
)

// Roomy is a list in new memory, with spare room behind it, filled with what is seen if it is touched.
func Roomy[T any](list []T, spare ...T) []T {
	return slices.Concat(list, spare, spare)[:len(list)]
}

// RoomyExpr is an expression in new memory, each list of it with spare room behind it.
func RoomyExpr(e api.Expr) api.Expr {
	args := make([]api.Expr, len(e.Args))
	for i, x := range e.Args {
		args[i] = RoomyExpr(x)
	}
	e.Args = Roomy(args, api.Expr{Op: api.OpVar, Name: "spare", At: -1}, api.Expr{Op: api.OpCall, Name: "spare", At: -1})
	return e
}

// RoomyProgram is a program in new memory, each list of it with spare room behind it.
func RoomyProgram(p api.Program) api.Program {
	param, spare := api.Param{Name: "x", Type: api.TypeB, At: -1}, api.Func{Name: "spare", At: -1}
	funcs := make([]api.Func, len(p.Funcs))
	for i, f := range p.Funcs {
		f.Params, f.Body = Roomy(f.Params, param), RoomyExpr(f.Body)
		funcs[i] = f
	}
	return api.Program{Funcs: Roomy(funcs, spare)}
}

// Whole is a list with its spare room as if it were in use, in new memory.
func Whole[T any](list []T) []T { return slices.Clone(list[:cap(list)]) }

// WholeExpr is an expression with its spare room as if it were in use, in new memory.
func WholeExpr(e api.Expr) api.Expr {
	var args []api.Expr
	for _, x := range e.Args[:cap(e.Args)] {
		args = append(args, WholeExpr(x))
	}
	e.Args = args
	return e
}

// WholeProgram is a program with its spare room as if it were in use, in new memory.
func WholeProgram(p api.Program) api.Program {
	var q api.Program
	for _, f := range p.Funcs[:cap(p.Funcs)] {
		f.Params, f.Body = Whole(f.Params), WholeExpr(f.Body)
		q.Funcs = append(q.Funcs, f)
	}
	return q
}
