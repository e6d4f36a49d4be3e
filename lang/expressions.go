package lang

import "fathom/api"

func (r *reader) expr() api.Expr {
	switch r.next().Text {
	case "let":
		return r.binding(api.OpLet)
	case "strict":
		return r.binding(api.OpStrict)
	case "if":
		return r.choice()
	case "case":
		return r.look()
	}
	return r.cons()
}

// enter takes a word that nests what stands in its parts; leave is to follow those.
func (r *reader) enter() api.Mark {
	if r.nesting >= r.limits.Nest {
		r.giveUp(api.ErrNest)
	}
	r.nesting++
	return r.take()
}

func (r *reader) leave() { r.nesting-- }

func (r *reader) binding(op api.Op) api.Expr {
	word := r.enter()
	name := r.name().Text
	kind := r.typeWord()
	r.must("=")
	what := r.expr()
	r.must("in")
	where := r.expr()
	r.leave()
	return api.Expr{Op: op, Name: name, Type: kind, Args: []api.Expr{what, where}, At: word.At}
}

func (r *reader) choice() api.Expr {
	word := r.take()
	test := r.expr()
	r.must("then")
	yes := r.expr()
	r.must("else")
	no := r.expr()
	return api.Expr{Op: api.OpIf, Args: []api.Expr{test, yes, no}, At: word.At}
}

// look reads a case.
func (r *reader) look() api.Expr {
	word := r.enter()
	into := r.expr()
	r.must("of")
	r.must("nil")
	r.must("->")
	empty := r.expr()
	r.must("|")
	head := r.name().Text
	r.must(":")
	tail := r.name().Text
	r.must("->")
	longer := r.expr()
	r.leave()
	return api.Expr{Op: api.OpCase, Name: head, Tail: tail, Args: []api.Expr{into, empty, longer}, At: word.At}
}
