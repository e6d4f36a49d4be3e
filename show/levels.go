package show

import "fathom/api"

// The levels, from the weakest on: where one is wanted, all that is weaker stands in brackets.
const (
	weakest = iota // let, strict, if, case
	cons
	comparison
	sum     // a difference, too
	product // a quotient, too
	unit    // all others
)

func level(op api.Op) int {
	switch op {
	case api.OpLet, api.OpStrict, api.OpIf, api.OpCase:
		return weakest
	case api.OpCons:
		return cons
	case api.OpEq, api.OpLess:
		return comparison
	case api.OpAdd, api.OpSub:
		return sum
	case api.OpMul, api.OpQuo:
		return product
	}
	return unit
}

// operands is at which levels the operands of an operation with a sign are wanted: on the side from which a row of its
// kind is taken together its own level is enough, and a comparison has no such side.
func operands(op api.Op) (left, right int) {
	own := level(op)
	switch own {
	case cons:
		return own + 1, own
	case comparison:
		return own + 1, own + 1
	}
	return own, own + 1
}
