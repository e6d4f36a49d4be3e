package core

import (
	"slices"

	"fathom/api"
)

// flattener gives the slots of one function out, one number behind the other.
type flattener struct {
	numbers map[string]int   // of each function's name its number
	names   map[string][]int // of each name the slots of its bindings around the place that is come to, the nearest one last
	slots   int
}

func flat(numbers map[string]int, f *api.Func) api.Super {
	fl := flattener{numbers: numbers, names: map[string][]int{}}
	s := api.Super{Name: f.Name, Type: f.Type}
	for _, param := range f.Params {
		fl.bind(param.Name)
		s.Params = append(s.Params, param.Type)
	}
	s.Code = fl.code(&f.Body)
	s.Slots = fl.slots
	return s
}

func (f *flattener) next() int {
	f.slots++
	return f.slots - 1
}

func (f *flattener) bind(name string) int {
	slot := f.next()
	f.names[name] = append(f.names[name], slot)
	return slot
}

func (f *flattener) unbind(name string) {
	slots := f.names[name]
	f.names[name] = slots[:len(slots)-1]
}

// slot is a variable's. A sound program has none whose name isn't bound.
func (f *flattener) slot(variable *api.Expr) int {
	slots := f.names[variable.Name]
	return slots[len(slots)-1]
}

func (f *flattener) code(e *api.Expr) api.Code {
	if lit, is := literal(e); is {
		return api.Code{Op: api.CodeLit, Lit: lit}
	}
	switch e.Op {
	case api.OpVar:
		return api.Code{Op: api.CodeVar, Slot: f.slot(e)}
	case api.OpFail:
		return api.Code{Op: api.CodeFail}
	case api.OpCall:
		return f.ofAtoms(api.Code{Op: api.CodeCall, Func: f.numbers[e.Name]}, e.Args)
	case api.OpCons:
		return f.ofAtoms(api.Code{Op: api.CodeCons}, e.Args)
	case api.OpIf:
		return api.Code{Op: api.CodeIf, Args: f.parts(e)}
	case api.OpCase:
		return f.caseOf(e)
	case api.OpLet:
		return f.let(e)
	case api.OpStrict:
		return f.strict(e)
	}
	return api.Code{Op: api.CodePrim, Prim: e.Op, Args: f.parts(e)}
}

func (f *flattener) parts(e *api.Expr) []api.Code {
	codes := make([]api.Code, len(e.Args))
	for i := range e.Args {
		codes[i] = f.code(&e.Args[i])
	}
	return codes
}

// caseOf binds the head's name ahead of the tail's: of one name for both the tail counts.
func (f *flattener) caseOf(e *api.Expr) api.Code {
	list := f.code(&e.Args[0])
	ofNil := f.code(&e.Args[1])
	head, tail := f.bind(e.Name), f.bind(e.Tail)
	ofCons := f.code(&e.Args[2])
	f.unbind(e.Tail)
	f.unbind(e.Name)
	return api.Code{Op: api.CodeCase, Slot: head, Slot2: tail, Args: []api.Code{list, ofNil, ofCons}}
}

func (f *flattener) let(e *api.Expr) api.Code {
	slot := f.bind(e.Name)
	args := f.parts(e)
	f.unbind(e.Name)
	return api.Code{Op: api.CodeLet, Slot: slot, Args: args}
}

func (f *flattener) strict(e *api.Expr) api.Code {
	first := f.code(&e.Args[0])
	slot := f.bind(e.Name)
	second := f.code(&e.Args[1])
	f.unbind(e.Name)
	return api.Code{Op: api.CodeStrict, Slot: slot, Args: []api.Code{first, second}}
}

// ofAtoms is a call or a cons of those parts, within a let for each that is no atom. All of these have their slots before
// the first of them is flattened, which gives more slots out. The lets are laid around in a loop, the innermost first: there
// may be far more of them than parts are nested.
func (f *flattener) ofAtoms(code api.Code, parts []api.Expr) api.Code {
	var later []int
	for i := range parts {
		atom, is := f.atom(&parts[i])
		if !is {
			atom = api.Atom{Slot: f.next()}
			later = append(later, i)
		}
		code.Atoms = append(code.Atoms, atom)
	}
	lets := make([]api.Code, len(later))
	for k, i := range later {
		lets[k] = api.Code{Op: api.CodeLet, Slot: code.Atoms[i].Slot, Args: []api.Code{f.code(&parts[i]), {}}}
	}
	for _, let := range slices.Backward(lets) {
		let.Args[1] = code
		code = let
	}
	return code
}

// atom is false of a part that must have a slot of its own.
func (f *flattener) atom(e *api.Expr) (api.Atom, bool) {
	if e.Op == api.OpVar {
		return api.Atom{Slot: f.slot(e)}, true
	}
	lit, is := literal(e)
	return api.Atom{Slot: -1, Lit: lit}, is
}

func literal(e *api.Expr) (api.Value, bool) {
	switch e.Op {
	case api.OpNum:
		return api.Value{Type: api.TypeN, Num: e.Num}, true
	case api.OpTrue, api.OpFalse:
		return api.Value{Type: api.TypeB, Bool: e.Op == api.OpTrue}, true
	case api.OpNil:
		return api.Value{Type: api.TypeL}, true
	}
	return api.Value{}, false
}
