package machine

import (
	"fathom/api"
	"fathom/prim"
)

// place is where giving an end back leads to.
type place int

const (
	toCode place = iota
	toCell
	toEnd
	toWhole
)

// use is what an end is wanted for.
type use int

const (
	ofNode   use = iota // a node's end
	ofFirst             // the end of a code's first Arg
	ofSecond            // that of an operation's second Arg
	ofHead              // the next element of the list that is the whole
	ofTail              // the tail behind it
)

// waiting lies on the stack till an end is given back to it.
type waiting struct {
	use   use
	code  *api.Code // ofFirst, ofSecond
	frame *frame    // ofFirst
	first api.Cell  // ofSecond: the first end
	at    int       // ofNode: its number; ofHead: the pair's
}

func (m *machine) lay(w waiting) { m.stack = append(m.stack, w) }

// give gives the end back to the top of the stack.
func (m *machine) give() (place, api.Errno) {
	last := len(m.stack) - 1
	if last < 0 {
		return m.whole()
	}
	top := m.stack[last]
	m.stack = m.stack[:last]
	switch top.use {
	case ofNode:
		return toEnd, m.heap.Update(top.at, m.cell)
	case ofFirst:
		return m.goOn(&top)
	case ofSecond:
		return m.apply(top.code.Prim, plain(top.first), plain(m.cell))
	case ofHead:
		return m.element(top.at)
	}
	if m.cell.Kind == api.CellNum || m.cell.Kind == api.CellBool {
		return 0, api.ErrShape
	}
	return m.whole()
}

// whole is there, if the end is no pair; else the pair's head is the next to be found.
func (m *machine) whole() (place, api.Errno) {
	if m.cell.Kind != api.CellCons {
		return toWhole, api.OK
	}
	m.lay(waiting{use: ofHead, at: m.cell.At})
	head, _, why := m.heap.Parts(m.cell.At)
	m.cell = head
	return toCell, why
}

func (m *machine) element(pair int) (place, api.Errno) {
	if m.cell.Kind != api.CellNum {
		return 0, api.ErrShape
	}
	m.elements = append(m.elements, m.cell.Num)
	m.lay(waiting{use: ofTail})
	_, tail, why := m.heap.Parts(pair)
	m.cell = tail
	return toCell, why
}

// goOn goes on with a code whose first Arg has come to an end.
func (m *machine) goOn(w *waiting) (place, api.Errno) {
	switch w.code.Op {
	case api.CodeIf:
		return m.choose(w)
	case api.CodeCase:
		return m.open(w)
	case api.CodeStrict:
		w.frame.bind(w.code.Slot, m.cell)
		return m.into(w, 1)
	}
	if len(w.code.Args) == 1 {
		return m.apply(w.code.Prim, plain(m.cell))
	}
	m.lay(waiting{use: ofSecond, code: w.code, first: m.cell})
	return m.into(w, 1)
}

func (m *machine) into(w *waiting, arg int) (place, api.Errno) {
	m.code, m.frame = &w.code.Args[arg], w.frame
	return toCode, api.OK
}

func (m *machine) choose(w *waiting) (place, api.Errno) {
	if m.cell.Kind != api.CellBool {
		return 0, api.ErrShape
	}
	if m.cell.Bool {
		return m.into(w, 1)
	}
	return m.into(w, 2)
}

func (m *machine) open(w *waiting) (place, api.Errno) {
	switch m.cell.Kind {
	case api.CellNil:
		return m.into(w, 1)
	case api.CellCons:
		head, tail, why := m.heap.Parts(m.cell.At)
		if why != api.OK {
			return 0, why
		}
		w.frame.bind(w.code.Slot, head)
		w.frame.bind(w.code.Slot2, tail)
		return m.into(w, 2)
	}
	return 0, api.ErrShape
}

// apply is also what tells an operation's ends that aren't of the kind that it takes.
func (m *machine) apply(op api.Op, ends ...api.Value) (place, api.Errno) {
	v, why := prim.Apply(op, ends)
	m.cell = literal(v)
	return toEnd, why
}
