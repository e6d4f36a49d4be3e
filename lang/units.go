package lang

import "fathom/api"

func (r *reader) unit() api.Expr {
	switch mark := r.next(); mark.Kind {
	case api.MarkNumber:
		return api.Expr{Op: api.OpNum, Num: mark.Num, At: r.take().At}
	case api.MarkName:
		return r.named()
	case api.MarkWord:
		return r.worded()
	}
	return r.bracketed()
}

// named reads a variable, or a call if a bracket stands behind the name.
func (r *reader) named() api.Expr {
	name := r.take()
	e := api.Expr{Op: api.OpVar, Name: name.Text, At: name.At}
	if r.stands("(") {
		e.Op, e.Args = api.OpCall, r.arguments()
	}
	return e
}

func (r *reader) arguments() []api.Expr {
	r.must("(")
	if r.pass(")") {
		return nil
	}
	all := []api.Expr{r.expr()}
	for r.pass(",") {
		all = append(all, r.expr())
	}
	r.must(")")
	return all
}

func (r *reader) worded() api.Expr {
	op := wordOp(r.next().Text)
	if op == 0 {
		r.giveUp(api.ErrGram)
	}
	e := api.Expr{Op: op, At: r.take().At}
	switch op {
	case api.OpFail:
		e.Type = r.typeWord()
	case api.OpNot, api.OpRe, api.OpIm, api.OpConj:
		e.Args = []api.Expr{r.bracketed()}
	}
	return e
}

// wordOp is what a unit that begins with a word is; 0, if none does.
func wordOp(word string) api.Op {
	switch word {
	case "true":
		return api.OpTrue
	case "false":
		return api.OpFalse
	case "nil":
		return api.OpNil
	case "fail":
		return api.OpFail
	case "not":
		return api.OpNot
	case "re":
		return api.OpRe
	case "im":
		return api.OpIm
	case "conj":
		return api.OpConj
	}
	return 0
}

func (r *reader) bracketed() api.Expr {
	r.must("(")
	e := r.expr()
	r.must(")")
	return e
}
