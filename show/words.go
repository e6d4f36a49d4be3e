package show

import (
	"fathom/api"
	"fathom/gauss"
)

func letter(t api.Type) string {
	switch t {
	case api.TypeN:
		return "N"
	case api.TypeB:
		return "B"
	case api.TypeL:
		return "L"
	}
	return ""
}

// number is a number's text; what is no number has none.
func number(z complex128) string {
	text, _ := gauss.Text(z)
	return text
}

// word is the one that an expression is, or begins with.
func word(op api.Op) string {
	switch op {
	case api.OpTrue:
		return "true"
	case api.OpFalse:
		return "false"
	case api.OpNil:
		return "nil"
	case api.OpFail:
		return "fail"
	case api.OpNot:
		return "not"
	case api.OpRe:
		return "re"
	case api.OpIm:
		return "im"
	case api.OpConj:
		return "conj"
	case api.OpLet:
		return "let"
	case api.OpStrict:
		return "strict"
	}
	return ""
}

// sign is the one between an operation's operands.
func sign(op api.Op) string {
	switch op {
	case api.OpCons:
		return ":"
	case api.OpEq:
		return "=="
	case api.OpLess:
		return "<"
	case api.OpAdd:
		return "+"
	case api.OpSub:
		return "-"
	case api.OpMul:
		return "*"
	case api.OpQuo:
		return "/"
	}
	return ""
}
