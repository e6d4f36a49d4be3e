package machine

import (
	"math"
	"math/rand"
	"slices"
	"testing"

	"fathom/api"
	"fathom/core"
	"fathom/lang"
	"fathom/trial"
	"fathom/value"
)

var wide = api.Limits{Text: api.MaxWide, Funcs: 1 << 15, Arity: 1 << 15, Nest: 1 << 15}

func programOf(t *testing.T, text string) api.Program {
	t.Helper()
	p, f := lang.Parse([]byte(text), wide)
	if f != (api.Fault{}) {
		t.Fatalf("%.300q: %v", text, f)
	}
	return p
}

func flat(t *testing.T, p api.Program) api.Core {
	t.Helper()
	c, e := core.Flatten(p)
	if e != api.OK {
		t.Fatal(p, e)
	}
	return c
}

func coreOf(t *testing.T, text string) api.Core {
	t.Helper()
	return flat(t, programOf(t, text))
}

// valueArgs are values as arguments.
func valueArgs(values []api.Value) []api.Arg {
	var all []api.Arg
	for _, v := range values {
		all = append(all, api.Arg{Value: v})
	}
	return all
}

func lineOf(t *testing.T, text string) []api.Arg {
	t.Helper()
	l, e := value.Split(text)
	if e != api.OK {
		t.Fatalf("%q: %v", text, e)
	}
	return valueArgs(l)
}

// isZero tells a -0 from 0.
func isZero(v api.Value) bool {
	bits := math.Float64bits(real(v.Num)) | math.Float64bits(imag(v.Num))
	return v.Type == 0 && bits == 0 && !v.Bool && len(v.List) == 0
}

func same(a, b api.Result) bool {
	sameValue := value.Same(a.Value, b.Value) || isZero(a.Value) && isZero(b.Value)
	return sameValue && a.Why == b.Why && a.Moves == b.Moves && a.Thunks == b.Thunks && a.Updates == b.Updates && a.Calls == b.Calls
}

// drawnCall is a function of a drawn core, and arguments for it.
type drawnCall struct {
	p    api.Program // of a core that is flattened
	text string
	c    api.Core
	s    api.Super
	args []api.Arg
}

// values are the arguments, all of which are values.
func (c *drawnCall) values() []api.Value {
	var all []api.Value
	for _, a := range c.args {
		all = append(all, a.Value)
	}
	return all
}

// drawer draws arguments and cores; the same each time for one source.
type drawer struct{ source *rand.Rand }

func one[T any](d *drawer, of []T) T { return of[d.source.Intn(len(of))] }

func (d *drawer) value(t api.Type) api.Value {
	v := one(d, map[api.Type][]api.Value{
		api.TypeN: {{Num: 0}, {Num: 1}, {Num: 2}, {Num: -3 + 4i}, {Num: api.Most}},
		api.TypeB: {{Bool: false}, {Bool: true}},
		api.TypeL: {{}, {List: []complex128{5}}, {List: []complex128{1, 2i}}, {List: []complex128{0, -1, 7 - 1i}}},
	}[t])
	v.Type = t
	return v
}

func (d *drawer) values(params []api.Type) []api.Arg {
	var all []api.Arg
	for _, t := range params {
		all = append(all, api.Arg{Value: d.value(t)})
	}
	return all
}

// worst is an argument that fits, often not a value.
func (d *drawer) worst(t api.Type) api.Arg {
	a := api.Arg{Kind: api.ArgKind(d.source.Intn(4)), Value: d.value(t), Hole: d.source.Intn(3)}
	switch {
	case a.Kind == api.ArgPoison:
		a.Value = api.Value{}
	case t != api.TypeL, a.Kind == api.ArgHole && a.Hole >= len(a.Value.List):
		a.Kind = api.ArgValue
	}
	return a
}

func (d *drawer) worstOf(params []api.Type) []api.Arg {
	var all []api.Arg
	for _, t := range params {
		all = append(all, d.worst(t))
	}
	return all
}

// drawCalls are a call of each function of n flattened programs of about so many parts a definition at most.
func drawCalls(t *testing.T, seed int64, n, room int, args func(*drawer, []api.Type) []api.Arg) []drawnCall {
	t.Helper()
	source := rand.New(rand.NewSource(seed))
	var all []drawnCall
	for range n {
		d := &drawer{source}
		text := trial.Program(source.Intn, room)
		p := programOf(t, text)
		c := flat(t, p)
		for _, s := range c.Supers {
			all = append(all, drawnCall{p, text, c, s, args(d, s.Params)})
		}
	}
	return all
}

// rawDrawer draws right cores of which no program knows: of whatever kinds come together, and with slots in any order.
type rawDrawer struct {
	drawer
	room   int   // pieces that may still be drawn, about
	params []int // of each function
	bound  int   // of the function that is drawn
}

func (d *rawDrawer) literal() api.Value { return d.drawer.value(api.Type(1 + d.source.Intn(2))) }

func (d *rawDrawer) atom(slots []int) api.Atom {
	switch n := d.source.Intn(10); {
	case n < 7 && len(slots) > 0:
		return api.Atom{Slot: one(&d.drawer, slots)}
	case n < 9:
		return api.Atom{Slot: -1, Lit: d.literal()}
	}
	return api.Atom{Slot: -1, Lit: api.Value{Type: api.TypeL}}
}

func (d *rawDrawer) bind(slots []int, n int) []int {
	inner := slices.Clone(slots)
	for range n {
		inner = append(inner, d.bound)
		d.bound++
	}
	return inner
}

func (d *rawDrawer) leaf(slots []int) api.Code {
	if len(slots) > 0 && d.source.Intn(3) > 0 {
		return api.Code{Op: api.CodeVar, Slot: one(&d.drawer, slots)}
	}
	if d.source.Intn(30) == 0 {
		return api.Code{Op: api.CodeFail}
	}
	return api.Code{Op: api.CodeLit, Lit: d.literal()}
}

func (d *rawDrawer) code(slots []int) api.Code {
	d.room--
	if d.room < 0 {
		return d.leaf(slots)
	}
	switch d.source.Intn(10) {
	case 0:
		return d.leaf(slots)
	case 1, 2:
		return d.call(slots)
	case 3:
		return api.Code{Op: api.CodeCons, Atoms: []api.Atom{d.atom(slots), d.atom(slots)}}
	case 4:
		return api.Code{Op: api.CodeIf, Args: []api.Code{d.truth(slots), d.code(slots), d.code(slots)}}
	case 5:
		inner := d.bind(slots, 2)
		return api.Code{Op: api.CodeCase, Slot: inner[len(slots)], Slot2: inner[len(slots)+1], Args: []api.Code{d.code(slots), d.code(slots), d.code(inner)}}
	case 6:
		inner := d.bind(slots, 1)
		return api.Code{Op: api.CodeStrict, Slot: inner[len(slots)], Args: []api.Code{d.code(slots), d.code(inner)}}
	case 7, 8:
		inner := d.bind(slots, 1)
		return api.Code{Op: api.CodeLet, Slot: inner[len(slots)], Args: []api.Code{d.code(inner), d.code(inner)}}
	}
	return d.operation(api.Op(8+d.source.Intn(10)), slots)
}

// truth is often one, so that an if goes on.
func (d *rawDrawer) truth(slots []int) api.Code {
	if d.source.Intn(4) == 0 {
		return d.code(slots)
	}
	return d.operation(api.OpEq, slots)
}

func (d *rawDrawer) operation(op api.Op, slots []int) api.Code {
	c := api.Code{Op: api.CodePrim, Prim: op, Args: []api.Code{d.code(slots)}}
	if op <= api.OpLess {
		c.Args = append(c.Args, d.code(slots))
	}
	return c
}

func (d *rawDrawer) call(slots []int) api.Code {
	c := api.Code{Op: api.CodeCall, Func: d.source.Intn(len(d.params))}
	for range d.params[c.Func] {
		c.Atoms = append(c.Atoms, d.atom(slots))
	}
	return c
}

// renumber gives the slots that are bound their numbers.
func renumber(c *api.Code, slot func(int) int) {
	switch c.Op {
	case api.CodeCase:
		c.Slot, c.Slot2 = slot(c.Slot), slot(c.Slot2)
	case api.CodeVar, api.CodeLet, api.CodeStrict:
		c.Slot = slot(c.Slot)
	}
	for i := range c.Atoms {
		c.Atoms[i].Slot = slot(c.Atoms[i].Slot)
	}
	for i := range c.Args {
		renumber(&c.Args[i], slot)
	}
}

func (d *rawDrawer) super(at, room int) api.Super {
	s := api.Super{Name: string(rune('a' + at)), Type: api.Type(1 + d.source.Intn(3))}
	var params []int
	for i := range d.params[at] {
		s.Params, params = append(s.Params, api.Type(1+d.source.Intn(3))), append(params, i)
	}
	d.room, d.bound = d.source.Intn(room), len(params)
	s.Code = d.code(params)
	s.Slots = d.bound
	order := d.source.Perm(s.Slots - len(params))
	renumber(&s.Code, func(slot int) int {
		if slot < len(params) {
			return slot
		}
		return len(params) + order[slot-len(params)]
	})
	return s
}

func drawRaw(t *testing.T, seed int64, n, room int) []drawnCall {
	t.Helper()
	source := rand.New(rand.NewSource(seed))
	var all []drawnCall
	for range n {
		d := &rawDrawer{drawer: drawer{source}}
		for range 1 + source.Intn(3) {
			d.params = append(d.params, source.Intn(4))
		}
		var c api.Core
		for at := range d.params {
			c.Supers = append(c.Supers, d.super(at, room))
		}
		if core.Check(c) != api.OK {
			t.Fatalf("drawn, but not right: %v", c)
		}
		for _, s := range c.Supers {
			all = append(all, drawnCall{c: c, s: s, args: d.worstOf(s.Params)})
		}
	}
	return all
}
