package scope

import "fathom/api"

// bindings is how often each name is bound around the place that a walk has come to. Counts are enough, as no more is
// asked than whether a name is bound, and no row of bindings has to be looked through for it.
type bindings map[string]int

func (b bindings) add(times int, bound ...string) {
	for _, name := range bound {
		b[name] += times
	}
}

func (b bindings) has(name string) bool { return b[name] > 0 }

// leavesFree says whether an expression that a walk meets is a free variable.
func (b bindings) leavesFree(e api.Expr) bool { return e.Op == api.OpVar && !b.has(e.Name) }

// walk meets an expression and then all its parts, each while the names are counted that are bound around it.
func (b bindings) walk(e api.Expr, meet func(api.Expr)) {
	meet(e)
	for i, part := range e.Args {
		bound := boundIn(e, i)
		b.add(1, bound...)
		b.walk(part, meet)
		b.add(-1, bound...)
	}
}

// boundIn is the names that an expression binds in its part i.
func boundIn(e api.Expr, i int) []string {
	switch {
	case e.Op == api.OpLet, e.Op == api.OpStrict && i == 1:
		return []string{e.Name}
	case e.Op == api.OpCase && i == 2:
		return []string{e.Name, e.Tail}
	}
	return nil
}

func eachFree(e api.Expr, tell func(variable api.Expr)) {
	around := bindings{}
	around.walk(e, func(met api.Expr) {
		if around.leavesFree(met) {
			tell(met)
		}
	})
}
