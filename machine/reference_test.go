package machine

import (
	"maps"
	"slices"

	"fathom/api"
	"fathom/prim"
	"fathom/value"
)

// What Run is held against: the chapter's words read once more, with Go's own stack in the place of the machine's, with
// slots that are copied wherever one is bound, and with nodes and pairs that are pointers.

// seen is a cell: a node, a pair, or a value.
type seen struct {
	node       *node
	head, tail *seen
	value      api.Value
}

func (s *seen) isPair() bool { return s.head != nil }

func (s *seen) is(t api.Type) bool { return s.head == nil && s.value.Type == t }

type node struct {
	state api.State
	code  api.Code
	slots map[int]*seen
	end   *seen
}

func poisoned() *seen { return &seen{node: &node{state: api.Poison}} }

type words struct {
	c                              api.Core
	fuel                           int
	moves, thunks, updates, called int
}

// move gives up by a panic with ErrFuel, as all that ends a run without a value does with its error.
func (w *words) move() {
	if w.moves == w.fuel {
		panic(api.ErrFuel)
	}
	w.moves++
}

func need(is bool) {
	if !is {
		panic(api.ErrShape)
	}
}

func and(slots map[int]*seen, slot int, what *seen) map[int]*seen {
	more := maps.Clone(slots)
	if more == nil {
		more = map[int]*seen{}
	}
	more[slot] = what
	return more
}

func atomOf(a api.Atom, slots map[int]*seen) *seen {
	if a.Slot == -1 {
		return &seen{value: a.Lit}
	}
	return slots[a.Slot]
}

// into is the end that a code comes to; the move that gives it back is made by whom it is given to.
func (w *words) into(c api.Code, slots map[int]*seen) *seen {
	w.move()
	switch c.Op {
	case api.CodeLit:
		return &seen{value: c.Lit}
	case api.CodeFail:
		panic(api.TrapFail)
	case api.CodeVar:
		return w.cell(slots[c.Slot])
	case api.CodeCons:
		return &seen{head: atomOf(c.Atoms[0], slots), tail: atomOf(c.Atoms[1], slots)}
	case api.CodeCall:
		w.called++
		inner := map[int]*seen{}
		for i, a := range c.Atoms {
			inner[i] = atomOf(a, slots)
		}
		return w.into(w.c.Supers[c.Func].Code, inner)
	case api.CodeLet:
		w.thunks++
		later := &node{state: api.Delayed, code: c.Args[0]}
		later.slots = and(slots, c.Slot, &seen{node: later})
		return w.into(c.Args[1], later.slots)
	}
	return w.behind(c, slots, w.given(c.Args[0], slots))
}

// given is the end of a code's part, given back.
func (w *words) given(c api.Code, slots map[int]*seen) *seen {
	end := w.into(c, slots)
	w.move()
	return end
}

func (w *words) behind(c api.Code, slots map[int]*seen, first *seen) *seen {
	switch {
	case c.Op == api.CodeStrict:
		return w.into(c.Args[1], and(slots, c.Slot, first))
	case c.Op == api.CodeIf:
		need(first.is(api.TypeB))
		if first.value.Bool {
			return w.into(c.Args[1], slots)
		}
		return w.into(c.Args[2], slots)
	case c.Op == api.CodeCase && first.isPair():
		return w.into(c.Args[2], and(and(slots, c.Slot, first.head), c.Slot2, first.tail))
	case c.Op == api.CodeCase:
		need(first.is(api.TypeL))
		return w.into(c.Args[1], slots)
	}
	ends := []*seen{first}
	for _, part := range c.Args[1:] {
		ends = append(ends, w.given(part, slots))
	}
	var values []api.Value
	for _, end := range ends {
		need(!end.isPair())
		values = append(values, end.value)
	}
	v, why := prim.Apply(c.Prim, values)
	if why != api.OK {
		panic(why)
	}
	return &seen{value: v}
}

// cell is the end that a cell comes to.
func (w *words) cell(s *seen) *seen {
	if s.node == nil {
		return s
	}
	switch s.node.state {
	case api.Black:
		panic(api.TrapLoop)
	case api.Poison:
		panic(api.TrapBottom)
	case api.Delayed:
		s.node.state = api.Black
		s.node.end = w.given(s.node.code, s.node.slots)
		s.node.state = api.Done
		w.updates++
	}
	return s.node.end
}

func (w *words) whole(end *seen) api.Value {
	if !end.isPair() {
		return end.value
	}
	v := api.Value{Type: api.TypeL}
	for end.isPair() {
		head := w.cell(end.head)
		w.move()
		need(head.is(api.TypeN))
		v.List = append(v.List, head.value.Num)
		end = w.cell(end.tail)
		w.move()
		need(end.isPair() || end.is(api.TypeL))
	}
	return v
}

// argumentByWords gives up with ErrArgs.
func argumentByWords(t api.Type, a api.Arg) *seen {
	refuse := func(bad bool) {
		if bad {
			panic(api.ErrArgs)
		}
	}
	if a.Kind == api.ArgPoison {
		refuse(a.Value.Type != 0 || a.Value.Num != 0 || a.Value.Bool || len(a.Value.List) > 0)
		return poisoned()
	}
	refuse(a.Kind < api.ArgValue || a.Kind > api.ArgHole || value.Check(a.Value) != api.OK)
	refuse(a.Kind == api.ArgValue && a.Value.Type != t)
	refuse(a.Kind != api.ArgValue && (t != api.TypeL || a.Value.Type != api.TypeL))
	refuse(a.Kind == api.ArgHole && (a.Hole < 0 || a.Hole >= len(a.Value.List)))
	if a.Value.Type != api.TypeL {
		return &seen{value: a.Value}
	}
	list := &seen{value: api.Value{Type: api.TypeL}}
	if a.Kind == api.ArgTorn {
		list = poisoned()
	}
	for i := len(a.Value.List) - 1; i >= 0; i-- {
		head := &seen{value: api.Value{Type: api.TypeN, Num: a.Value.List[i]}}
		if a.Kind == api.ArgHole && i == a.Hole {
			head = poisoned()
		}
		list = &seen{head: head, tail: list}
	}
	return list
}

// byWords is what Run tells of a right core.
func byWords(c api.Core, name string, args []api.Arg, fuel int) (r api.Result) {
	w := &words{c: c, fuel: min(max(fuel, 0), api.MaxFuel)}
	defer func() {
		if why, ended := recover().(api.Errno); ended {
			r = api.Result{Why: why}
		}
		if r.Why != api.ErrShape && r.Why != api.ErrFunc && r.Why != api.ErrArgs {
			r.Moves, r.Thunks, r.Updates, r.Calls = w.moves, w.thunks, w.updates, w.called
		}
	}()
	at := slices.IndexFunc(c.Supers, func(s api.Super) bool { return s.Name == name })
	if at < 0 {
		panic(api.ErrFunc)
	}
	s := c.Supers[at]
	if len(args) != len(s.Params) {
		panic(api.ErrArgs)
	}
	slots := map[int]*seen{}
	for i, a := range args {
		slots[i] = argumentByWords(s.Params[i], a)
	}
	return api.Result{Value: w.whole(w.given(s.Code, slots))}
}
