package mean

import (
	"fathom/api"
	"fathom/prim"
)

// watch counts the looks.
type watch struct {
	funcs map[string]function
	most  int
	cost  int
}

// value is the value of what a look at a thing ends with. A list is gone along in a loop, pair by pair; the rest of one that
// was handed in needs no look any more.
func (w *watch) value(t thing) (api.Value, api.Errno) {
	var heads []complex128
	e, why := w.look(t)
	for why == api.OK && e.pair != nil {
		tail := e.pair.tail
		if e, why = w.look(e.pair.head); why == api.OK {
			heads = append(heads, e.value.Num)
			e, why = w.look(tail)
		}
	}
	if why != api.OK {
		return api.Value{}, why
	}
	v := e.value
	v.List = append(heads, v.List...)
	return v, api.OK
}

// look is what a look at a thing ends with, or its trap. What an expression hands on to is gone to in a loop: only parts that
// have something to come behind them are looked at within one another.
func (w *watch) look(t thing) (end, api.Errno) {
	for t.expr != nil {
		if w.cost == w.most {
			return end{}, api.ErrFuel
		}
		w.cost++
		next, why := w.step(t)
		if why != api.OK {
			return end{}, why
		}
		t = next
	}
	return t.end, api.OK
}

// step is the thing that a look at an expression goes on with, or its end, or its trap.
func (w *watch) step(t thing) (thing, api.Errno) {
	e := t.expr
	switch e.Op {
	case api.OpNum:
		return number(e.Num), api.OK
	case api.OpTrue, api.OpFalse:
		return truth(e.Op == api.OpTrue), api.OK
	case api.OpNil:
		return list(nil), api.OK
	case api.OpFail:
		return thing{}, api.TrapFail
	case api.OpVar:
		return t.names.find(e.Name), api.OK
	case api.OpCall:
		return w.funcs[e.Name].applied(t.part), api.OK
	case api.OpCons:
		return ready(end{pair: &pair{t.part(0), t.part(1)}}), api.OK
	case api.OpIf:
		return w.choose(t)
	case api.OpCase:
		return w.open(t)
	case api.OpLet:
		return t.within(t.names.withItself(e.Name, &e.Args[0])), api.OK
	case api.OpStrict:
		return w.force(t)
	}
	return w.operate(t)
}

func (w *watch) choose(t thing) (thing, api.Errno) {
	is, why := w.look(t.part(0))
	if is.value.Bool {
		return t.part(1), why
	}
	return t.part(2), why
}

// open binds the head's name ahead of the tail's: of one name for both the tail counts.
func (w *watch) open(t thing) (thing, api.Errno) {
	l, why := w.look(t.part(0))
	if why != api.OK {
		return thing{}, why
	}
	parts, is := l.split()
	if !is {
		return t.part(1), api.OK
	}
	inner := t.names.with(t.expr.Name, parts.head).with(t.expr.Tail, parts.tail)
	return thing{expr: &t.expr.Args[2], names: inner}, api.OK
}

func (w *watch) force(t thing) (thing, api.Errno) {
	first, why := w.look(t.part(0))
	return t.within(t.names.with(t.expr.Name, ready(first))), why
}

// within is the part of a let or a strict in which the name counts.
func (t thing) within(inner names) thing { return thing{expr: &t.expr.Args[1], names: inner} }

func (w *watch) operate(t thing) (thing, api.Errno) {
	operands := make([]api.Value, len(t.expr.Args))
	for i := range operands {
		operand, why := w.look(t.part(i))
		if why != api.OK {
			return thing{}, why
		}
		operands[i] = operand.value
	}
	v, why := prim.Apply(t.expr.Op, operands)
	return ready(end{value: v}), why
}
