package show

import (
	"strings"

	"fathom/api"
)

// writer takes all pieces of a text into one builder: texts made for each part and joined would be copied once a
// nesting.
type writer struct {
	text strings.Builder
}

func (w *writer) String() string { return w.text.String() }

func (w *writer) add(pieces ...string) {
	for _, piece := range pieces {
		w.text.WriteString(piece)
	}
}

func (w *writer) definition(f api.Func) {
	w.add(f.Name, "(")
	for i, param := range f.Params {
		w.comma(i)
		w.add(param.Name, " ", letter(param.Type))
	}
	w.add("): ", letter(f.Type), " = ")
	w.expr(f.Body, weakest)
	w.add(";")
}

// comma parts the one at place i of a list from the one ahead.
func (w *writer) comma(i int) {
	if i > 0 {
		w.add(", ")
	}
}

// expr writes an expression where one of that level is wanted.
func (w *writer) expr(e api.Expr, wanted int) {
	if level(e.Op) >= wanted {
		w.bare(e)
		return
	}
	w.add("(")
	w.bare(e)
	w.add(")")
}

// part writes one of an expression's parts; nothing, if it has fewer, as one that is not sound in its shape may.
func (w *writer) part(e api.Expr, i, wanted int) {
	if i < len(e.Args) {
		w.expr(e.Args[i], wanted)
	}
}

// bare writes an expression without brackets around it.
func (w *writer) bare(e api.Expr) {
	switch e.Op {
	case api.OpNum:
		w.add(number(e.Num))
	case api.OpTrue, api.OpFalse, api.OpNil:
		w.add(word(e.Op))
	case api.OpFail:
		w.add(word(e.Op), " ", letter(e.Type))
	case api.OpVar:
		w.add(e.Name)
	case api.OpCall:
		w.call(e)
	case api.OpNot, api.OpRe, api.OpIm, api.OpConj:
		w.worded(e)
	case api.OpCons, api.OpEq, api.OpLess, api.OpAdd, api.OpSub, api.OpMul, api.OpQuo:
		w.operation(e)
	case api.OpIf:
		w.choice(e)
	case api.OpLet, api.OpStrict:
		w.binding(e)
	case api.OpCase:
		w.look(e)
	}
}

func (w *writer) call(e api.Expr) {
	w.add(e.Name, "(")
	for i, argument := range e.Args {
		w.comma(i)
		w.expr(argument, weakest)
	}
	w.add(")")
}

func (w *writer) worded(e api.Expr) {
	w.add(word(e.Op), "(")
	w.part(e, 0, weakest)
	w.add(")")
}

func (w *writer) operation(e api.Expr) {
	left, right := operands(e.Op)
	w.part(e, 0, left)
	w.add(" ", sign(e.Op), " ")
	w.part(e, 1, right)
}

func (w *writer) choice(e api.Expr) {
	w.add("if ")
	w.part(e, 0, weakest)
	w.add(" then ")
	w.part(e, 1, weakest)
	w.add(" else ")
	w.part(e, 2, weakest)
}

func (w *writer) binding(e api.Expr) {
	w.add(word(e.Op), " ", e.Name, " ", letter(e.Type), " = ")
	w.part(e, 0, weakest)
	w.add(" in ")
	w.part(e, 1, weakest)
}

// look writes a case.
func (w *writer) look(e api.Expr) {
	w.add("case ")
	w.part(e, 0, weakest)
	w.add(" of nil -> ")
	w.part(e, 1, weakest)
	w.add(" | ", e.Name, ":", e.Tail, " -> ")
	w.part(e, 2, weakest)
}
