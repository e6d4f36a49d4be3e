package mean

import (
	"maps"
	"math/rand"
	"slices"
	"testing"

	"fathom/api"
	"fathom/lang"
	"fathom/prim"
	"fathom/trial"
	"fathom/value"
)

// What Call is held against: the document's words, with Go's functions as things and Go's maps as names, copied wherever
// one is bound.

type found struct {
	value      api.Value
	head, tail func() found
}

type bound map[string]func() found

func (b bound) and(name string, what func() found) bound {
	more := maps.Clone(b)
	more[name] = what
	return more
}

type words struct {
	p    api.Program
	most int
	cost int
}

// look gives up by a panic with the trap, or with ErrFuel.
func (w *words) look(e api.Expr, b bound) found {
	if w.cost == w.most {
		panic(api.ErrFuel)
	}
	w.cost++
	later := func(i int) func() found { return func() found { return w.look(e.Args[i], b) } }
	switch e.Op {
	case api.OpNum:
		return found{value: api.Value{Type: api.TypeN, Num: e.Num}}
	case api.OpTrue:
		return found{value: api.Value{Type: api.TypeB, Bool: true}}
	case api.OpFalse:
		return found{value: api.Value{Type: api.TypeB}}
	case api.OpNil:
		return found{value: api.Value{Type: api.TypeL}}
	case api.OpFail:
		panic(api.TrapFail)
	case api.OpVar:
		return b[e.Name]()
	case api.OpCall:
		return w.call(e.Name, later)
	case api.OpCons:
		return found{head: later(0), tail: later(1)}
	case api.OpIf:
		if w.look(e.Args[0], b).value.Bool {
			return w.look(e.Args[1], b)
		}
		return w.look(e.Args[2], b)
	case api.OpCase:
		l := w.look(e.Args[0], b)
		if l.head == nil {
			return w.look(e.Args[1], b)
		}
		return w.look(e.Args[2], b.and(e.Name, l.head).and(e.Tail, l.tail))
	case api.OpLet:
		inner := maps.Clone(b)
		inner[e.Name] = func() found { return w.look(e.Args[0], inner) }
		return w.look(e.Args[1], inner)
	case api.OpStrict:
		first := w.look(e.Args[0], b)
		return w.look(e.Args[1], b.and(e.Name, func() found { return first }))
	}
	var operands []api.Value
	for _, x := range e.Args {
		operands = append(operands, w.look(x, b).value)
	}
	v, why := prim.Apply(e.Op, operands)
	if why != api.OK {
		panic(why)
	}
	return found{value: v}
}

func (w *words) call(name string, argument func(i int) func() found) found {
	i := slices.IndexFunc(w.p.Funcs, func(f api.Func) bool { return f.Name == name })
	b := bound{}
	for k, param := range w.p.Funcs[i].Params {
		b[param.Name] = argument(k)
	}
	return w.look(w.p.Funcs[i].Body, b)
}

// given is a value as a thing; a list is pairs of numbers.
func given(v api.Value) func() found {
	if v.Type != api.TypeL || len(v.List) == 0 {
		return func() found { return found{value: v} }
	}
	head, tail := api.Value{Type: api.TypeN, Num: v.List[0]}, api.Value{Type: api.TypeL, List: v.List[1:]}
	return func() found { return found{head: given(head), tail: given(tail)} }
}

func (f found) whole() api.Value {
	if f.head == nil {
		return f.value
	}
	first := f.head().value.Num
	rest := f.tail().whole()
	return api.Value{Type: api.TypeL, List: append([]complex128{first}, rest.List...)}
}

// byWords is what Call tells of a sound program's function and of arguments that fit.
func byWords(p api.Program, name string, args []api.Value, most int) (r api.Result) {
	w := &words{p: p, most: most}
	defer func() {
		r.Moves = w.cost
		if why, trapped := recover().(api.Errno); trapped {
			r.Why = why
		}
	}()
	return api.Result{Value: w.call(name, func(i int) func() found { return given(args[i]) }).whole()}
}

// arguments are values that fit parameters.
func arguments(source *rand.Rand, params []api.Param) []api.Value {
	var all []api.Value
	for _, param := range params {
		values := map[api.Type][]api.Value{
			api.TypeN: {{Num: 0}, {Num: 1}, {Num: 2}, {Num: -3 + 4i}, {Num: api.Most}},
			api.TypeB: {{Bool: false}, {Bool: true}},
			api.TypeL: {{}, {List: []complex128{5}}, {List: []complex128{1, 2i}}, {List: []complex128{0, -1, 7 - 1i}}},
		}[param.Type]
		all = append(all, values[source.Intn(len(values))])
		all[len(all)-1].Type = param.Type
	}
	return all
}

var wide = api.Limits{Text: api.MaxWide, Funcs: 1 << 15, Arity: 1 << 15, Nest: 1 << 15}

func programOf(t *testing.T, text string) api.Program {
	t.Helper()
	p, f := lang.Parse([]byte(text), wide)
	if f != (api.Fault{}) {
		t.Fatalf("%.300q: %v", text, f)
	}
	return p
}

func lineOf(t *testing.T, text string) []api.Value {
	t.Helper()
	l, e := value.Split(text)
	if e != api.OK {
		t.Fatalf("%q: %v", text, e)
	}
	return l
}

// drawnCall is a function of a drawn program, and arguments for it.
type drawnCall struct {
	p    api.Program
	text string
	f    api.Func
	args []api.Value
}

// drawCalls are a call of each function of n programs of about so many parts a definition at most.
func drawCalls(t *testing.T, seed int64, n, room int) []drawnCall {
	t.Helper()
	source := rand.New(rand.NewSource(seed))
	var all []drawnCall
	for range n {
		text := trial.Program(source.Intn, room)
		p := programOf(t, text)
		for _, f := range p.Funcs {
			all = append(all, drawnCall{p, text, f, arguments(source, f.Params)})
		}
	}
	return all
}

func same(a, b api.Result) bool {
	sameValue := value.Same(a.Value, b.Value) || a.Value.Type == 0 && b.Value.Type == 0
	a.Value.List, b.Value.List = nil, nil
	return sameValue && a.Why == b.Why && a.Moves == b.Moves && a.Thunks == b.Thunks && a.Updates == b.Updates && a.Calls == b.Calls &&
		a.Value.Num == b.Value.Num && a.Value.Bool == b.Value.Bool
}
