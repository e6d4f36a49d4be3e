package mean

import "fathom/api"

// thing is an expression within names, or (expr nil) an end already.
type thing struct {
	expr  *api.Expr
	names names
	end   end
}

// end is what a look ends with: a pair, or a bool, a number or a list. That list is the empty one or (the rest of) one that
// was handed in, which is pairs of numbers, but is taken apart only as far as it is needed.
type end struct {
	pair  *pair
	value api.Value
}

type pair struct {
	head, tail thing
}

func ready(e end) thing { return thing{end: e} }

func number(z complex128) thing { return ready(end{value: api.Value{Type: api.TypeN, Num: z}}) }

func truth(is bool) thing { return ready(end{value: api.Value{Type: api.TypeB, Bool: is}}) }

func list(l []complex128) thing { return ready(end{value: api.Value{Type: api.TypeL, List: l}}) }

// part is a part of a thing's expression, within the same names.
func (t thing) part(i int) thing { return thing{expr: &t.expr.Args[i], names: t.names} }

// split is a list's head and tail; false of the empty one.
func (e end) split() (pair, bool) {
	if e.pair != nil {
		return *e.pair, true
	}
	if l := e.value.List; len(l) > 0 {
		return pair{head: number(l[0]), tail: list(l[1:])}, true
	}
	return pair{}, false
}

// names is what is bound around an expression: the parameters of the call that its function was looked at for, and the names
// that were bound since.
type names struct {
	call *call
	last *binding
}

// call finds an argument when its parameter is asked for, so that a call costs the same however many it has.
type call struct {
	places   map[string]int
	argument func(i int) thing
}

type binding struct {
	name  string
	thing thing
	next  *binding
}

func (n names) with(name string, t thing) names {
	return names{n.call, &binding{name, t, n.last}}
}

// withItself binds a name to an expression in which that name counts, too.
func (n names) withItself(name string, e *api.Expr) names {
	inner := n.with(name, thing{expr: e})
	inner.last.thing.names = inner
	return inner
}

// find is what a name is bound to. A sound program has no name that is bound to nothing.
func (n names) find(name string) thing {
	for b := n.last; b != nil; b = b.next {
		if b.name == name {
			return b.thing
		}
	}
	return n.call.argument(n.call.places[name])
}

// function is a definition's body, and its parameters' places.
type function struct {
	body   *api.Expr
	places map[string]int
}

func functionsOf(p api.Program) map[string]function {
	funcs := map[string]function{}
	for i := range p.Funcs {
		f := &p.Funcs[i]
		places := map[string]int{}
		for k, param := range f.Params {
			places[param.Name] = k
		}
		funcs[f.Name] = function{&f.Body, places}
	}
	return funcs
}

// applied is a function's body, its parameters bound to those arguments.
func (f function) applied(argument func(i int) thing) thing {
	return thing{expr: f.body, names: names{call: &call{f.places, argument}}}
}
