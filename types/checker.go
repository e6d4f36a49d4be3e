package types

import "fathom/api"

// checker keeps the least place at which another type stands than is wanted: places aren't met in their order, as an
// operation stands at its sign.
type checker struct {
	funcs map[string]api.Func
	names names
	least api.Fault
}

// functionsOf is a program's functions by their names, the first of a name counting as it does in layer 6.
func functionsOf(p api.Program) map[string]api.Func {
	funcs := map[string]api.Func{}
	for _, f := range p.Funcs {
		if _, twice := funcs[f.Name]; !twice {
			funcs[f.Name] = f
		}
	}
	return funcs
}

func (c *checker) tell(at int) {
	if c.least.Why == api.OK || at < c.least.At {
		c.least = api.Fault{Why: api.ErrType, At: at}
	}
}

// look holds an expression and all its parts against what is wanted of them, with no names but these bound around it.
func (c *checker) look(bound []api.Param, e api.Expr, wanted api.Type) {
	c.names = names{}
	c.names.bind(bound)
	c.walk(e, wanted)
}

func (c *checker) walk(e api.Expr, wanted api.Type) {
	if hasOwn(e) && c.own(e) != wanted {
		c.tell(e.At)
	}
	for i, part := range e.Args {
		bound := boundIn(e, i)
		before := c.names.bind(bound)
		c.walk(part, c.wantedOf(e, i, wanted))
		c.names.unbind(bound, before)
	}
}

// hasOwn says whether an expression has a type of its own, and not that of its parts.
func hasOwn(e api.Expr) bool {
	switch e.Op {
	case api.OpIf, api.OpCase, api.OpLet, api.OpStrict:
		return false
	}
	return true
}

// own is an expression's own type; 0, if what it names isn't there.
func (c *checker) own(e api.Expr) api.Type {
	switch e.Op {
	case api.OpNum, api.OpAdd, api.OpSub, api.OpMul, api.OpQuo, api.OpRe, api.OpIm, api.OpConj:
		return api.TypeN
	case api.OpTrue, api.OpFalse, api.OpEq, api.OpLess, api.OpNot:
		return api.TypeB
	case api.OpNil, api.OpCons:
		return api.TypeL
	case api.OpFail:
		return e.Type
	case api.OpVar:
		return c.names[e.Name]
	case api.OpCall:
		return c.ownOfCall(e)
	}
	return 0
}

func (c *checker) ownOfCall(e api.Expr) api.Type {
	f, known := c.funcs[e.Name]
	if !known || len(f.Params) != len(e.Args) {
		return 0
	}
	return f.Type
}

// wantedOf is the type that is wanted of part i of an expression, of which itself that one is wanted.
func (c *checker) wantedOf(e api.Expr, i int, wanted api.Type) api.Type {
	switch e.Op {
	case api.OpNot:
		return api.TypeB
	case api.OpCall:
		return c.wantedOfArgument(e, i)
	case api.OpCons:
		return firstOr(i, api.TypeN, api.TypeL)
	case api.OpIf:
		return firstOr(i, api.TypeB, wanted)
	case api.OpCase:
		return firstOr(i, api.TypeL, wanted)
	case api.OpLet, api.OpStrict:
		return firstOr(i, e.Type, wanted)
	}
	return api.TypeN
}

func firstOr(i int, first, other api.Type) api.Type {
	if i == 0 {
		return first
	}
	return other
}

// wantedOfArgument is 0 of an argument that no parameter is there for: of the call itself that is told.
func (c *checker) wantedOfArgument(call api.Expr, i int) api.Type {
	params := c.funcs[call.Name].Params
	if i >= len(params) {
		return 0
	}
	return params[i].Type
}
