package machine

import (
	"fathom/api"
	"fathom/heap"
)

// machine has a code to go into, with its frame, or a cell to go into, or an end to give back.
type machine struct {
	supers   []api.Super
	heap     *heap.Heap
	things   []thing // at the tags of delayed nodes
	stack    []waiting
	code     *api.Code
	frame    *frame
	cell     api.Cell     // also an end
	elements []complex128 // of the list that is the whole, as far as it is there
	fuel     int
	moves    int
	calls    int
}

// thing is what a delayed node is to be found by.
type thing struct {
	code  *api.Code
	frame *frame
}

// run goes on till the whole is there, a list to its full depth, or a trap, or the fuel is out.
func (m *machine) run() api.Errno {
intoCode:
	if !m.move() {
		return api.ErrFuel
	}
	switch m.code.Op {
	case api.CodeFail:
		return api.TrapFail
	case api.CodeLit:
		m.cell = literal(m.code.Lit)
		goto giveBack
	case api.CodeVar:
		m.cell = m.frame.held(m.code.Slot)
		goto intoCell
	case api.CodeCons:
		m.cell = m.pair(m.frame.atom(&m.code.Atoms[0]), m.frame.atom(&m.code.Atoms[1]))
		goto giveBack
	case api.CodeCall:
		m.call()
		goto intoCode
	case api.CodeLet:
		m.delay()
		goto intoCode
	}
	m.lay(waiting{use: ofFirst, code: m.code, frame: m.frame})
	m.code = &m.code.Args[0]
	goto intoCode
intoCell: // within the move that has led here
	if m.cell.Kind != api.CellNode {
		goto giveBack
	}
	switch found, why := m.enter(); {
	case why != api.OK:
		return why
	case found:
		goto giveBack
	}
	goto intoCode
giveBack:
	if !m.move() {
		return api.ErrFuel
	}
	switch next, why := m.give(); {
	case why != api.OK:
		return why
	case next == toCode:
		goto intoCode
	case next == toCell:
		goto intoCell
	case next == toEnd:
		goto giveBack
	}
	return api.OK
}

// move takes one of the fuel; false, if there is none.
func (m *machine) move() bool {
	if m.moves == m.fuel {
		return false
	}
	m.moves++
	return true
}

func (m *machine) call() {
	m.calls++
	called := &m.supers[m.code.Func]
	inner := newFrame(called)
	for i := range m.code.Atoms {
		inner.bind(i, m.frame.atom(&m.code.Atoms[i]))
	}
	m.code, m.frame = &called.Code, inner
}

// delay binds a let's slot. Its thing has the same frame, so that the slot counts in it, too.
func (m *machine) delay() {
	at, _ := m.heap.Delay(len(m.things))
	m.things = append(m.things, thing{&m.code.Args[0], m.frame})
	m.frame.bind(m.code.Slot, api.Cell{Kind: api.CellNode, At: at})
	m.code = &m.code.Args[1]
}

// enter goes into a node; false, if that leads to its thing. A thing is gone into once at most, and isn't kept for longer.
func (m *machine) enter() (bool, api.Errno) {
	node, why := m.heap.Enter(m.cell.At)
	if why != api.OK {
		return false, why
	}
	if node.State == api.Done {
		m.cell = node.Cell
		return true, api.OK
	}
	m.lay(waiting{use: ofNode, at: m.cell.At})
	m.code, m.frame = m.things[node.Tag].code, m.things[node.Tag].frame
	m.things[node.Tag] = thing{}
	return false, api.OK
}
