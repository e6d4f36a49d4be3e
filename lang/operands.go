package lang

import "fathom/api"

// both is an operation on two operands, at the place of its sign.
func both(op api.Op, sign api.Mark, left, right api.Expr) api.Expr {
	return api.Expr{Op: op, Args: []api.Expr{left, right}, At: sign.At}
}

// cons is taken together from the right, so that its operands wait till the row has ended.
func (r *reader) cons() api.Expr {
	var heads []api.Expr
	var signs []api.Mark
again:
	operand := r.comp()
	if r.stands(":") {
		heads, signs = append(heads, operand), append(signs, r.take())
		goto again
	}
	for i := len(heads) - 1; i >= 0; i-- {
		operand = both(api.OpCons, signs[i], heads[i], operand)
	}
	return operand
}

func (r *reader) comp() api.Expr {
	left := r.sum()
	switch r.next().Text {
	case "==":
		return both(api.OpEq, r.take(), left, r.sum())
	case "<":
		return both(api.OpLess, r.take(), left, r.sum())
	}
	return left
}

func (r *reader) sum() api.Expr {
	left := r.term()
again:
	switch r.next().Text {
	case "+":
		left = both(api.OpAdd, r.take(), left, r.term())
		goto again
	case "-":
		left = both(api.OpSub, r.take(), left, r.term())
		goto again
	}
	return left
}

func (r *reader) term() api.Expr {
	left := r.unit()
again:
	switch r.next().Text {
	case "*":
		left = both(api.OpMul, r.take(), left, r.unit())
		goto again
	case "/":
		left = both(api.OpQuo, r.take(), left, r.unit())
		goto again
	}
	return left
}
