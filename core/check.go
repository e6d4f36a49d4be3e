package core

import (
	"fathom/api"
	"fathom/prim"
	"fathom/value"
)

// standing is how a slot that isn't a parameter's stands to the place that a walk has come to.
type standing int

const (
	unbound standing = iota
	around
	past // bound ahead, but no longer counting
)

// walker goes through the code of one function.
type walker struct {
	supers []api.Super
	super  *api.Super
	slots  map[int]standing // a map, as Slots may say any number, however few are bound
}

func rightSuper(supers []api.Super, s *api.Super) bool {
	for _, t := range s.Params {
		if !isType(t) {
			return false
		}
	}
	w := walker{supers: supers, super: s, slots: map[int]standing{}}
	return isType(s.Type) && w.right(&s.Code) && len(s.Params)+len(w.slots) == s.Slots
}

func isType(t api.Type) bool { return t == api.TypeN || t == api.TypeB || t == api.TypeL }

// step is a code, and how many of its parts have been gone into.
type step struct {
	code  *api.Code
	parts int
}

// right keeps a stack of its own: a call of many arguments is as many lets within one another.
func (w *walker) right(code *api.Code) bool {
	stack := []step{{code: code}}
	for len(stack) > 0 {
		top := &stack[len(stack)-1]
		c, part := top.code, top.parts
		top.parts++
		if part == 0 && !w.fits(c) {
			return false
		}
		if part == countsFrom(c.Op) && !w.bind(boundBy(c)) {
			return false
		}
		if part < len(c.Args) {
			stack = append(stack, step{code: &c.Args[part]})
			continue
		}
		w.unbind(boundBy(c))
		stack = stack[:len(stack)-1]
	}
	return true
}

// countsFrom is the number of the first part in which the slots that a code binds count; -1, if it binds none.
func countsFrom(op api.CodeOp) int {
	switch op {
	case api.CodeLet:
		return 0
	case api.CodeStrict:
		return 1
	case api.CodeCase:
		return 2
	}
	return -1
}

func boundBy(c *api.Code) []int {
	switch c.Op {
	case api.CodeLet, api.CodeStrict:
		return []int{c.Slot}
	case api.CodeCase:
		return []int{c.Slot, c.Slot2}
	}
	return nil
}

// bind is false of a slot that is a parameter's, that there isn't, or that is bound a second time.
func (w *walker) bind(slots []int) bool {
	for _, slot := range slots {
		if slot < len(w.super.Params) || slot >= w.super.Slots || w.slots[slot] != unbound {
			return false
		}
		w.slots[slot] = around
	}
	return true
}

func (w *walker) unbind(slots []int) {
	for _, slot := range slots {
		w.slots[slot] = past
	}
}

func (w *walker) counts(slot int) bool {
	return slot >= 0 && slot < len(w.super.Params) || w.slots[slot] == around
}

// fits looks at a code alone, not into its parts.
func (w *walker) fits(c *api.Code) bool {
	if len(c.Args) != partsOf(c) || len(c.Atoms) != w.atomsOf(c) {
		return false
	}
	switch c.Op {
	case api.CodeLit:
		return isLiteral(c.Lit)
	case api.CodeVar:
		return w.counts(c.Slot)
	}
	for i := range c.Atoms {
		if !w.rightAtom(&c.Atoms[i]) {
			return false
		}
	}
	return true
}

func (w *walker) rightAtom(a *api.Atom) bool {
	if a.Slot == -1 {
		return isLiteral(a.Lit)
	}
	return w.counts(a.Slot)
}

func isLiteral(v api.Value) bool { return value.Check(v) == api.OK && len(v.List) == 0 }

// partsOf is how many Args a code has; -1 of what is none.
func partsOf(c *api.Code) int {
	switch c.Op {
	case api.CodeLit, api.CodeVar, api.CodeCall, api.CodeCons, api.CodeFail:
		return 0
	case api.CodeLet, api.CodeStrict:
		return 2
	case api.CodeIf, api.CodeCase:
		return 3
	case api.CodePrim:
		if count, _ := prim.Takes(c.Prim); count > 0 {
			return count
		}
	}
	return -1
}

// atomsOf is how many Atoms a code has; -1 of a call of a function that there isn't.
func (w *walker) atomsOf(c *api.Code) int {
	switch c.Op {
	case api.CodeCons:
		return 2
	case api.CodeCall:
		if c.Func < 0 || c.Func >= len(w.supers) {
			return -1
		}
		return len(w.supers[c.Func].Params)
	}
	return 0
}
