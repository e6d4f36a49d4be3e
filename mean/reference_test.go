package mean

import (
	"maps"
	"math/rand"
	"slices"
	"strconv"
	"strings"
	"testing"

	"fathom/api"
	"fathom/lang"
	"fathom/prim"
	"fathom/value"
)

// What Call is held against: the document's words, with Go's functions as things and Go's maps as names, copied wherever
// one is bound.

type found struct {
	value      api.Value
	head, tail func() found
}

type bound map[string]func() found

func (b bound) and(name string, what func() found) bound {
	more := maps.Clone(b)
	more[name] = what
	return more
}

type words struct {
	p    api.Program
	most int
	cost int
}

// look gives up by a panic with the trap, or with ErrFuel.
func (w *words) look(e api.Expr, b bound) found {
	if w.cost == w.most {
		panic(api.ErrFuel)
	}
	w.cost++
	later := func(i int) func() found { return func() found { return w.look(e.Args[i], b) } }
	switch e.Op {
	case api.OpNum:
		return found{value: api.Value{Type: api.TypeN, Num: e.Num}}
	case api.OpTrue:
		return found{value: api.Value{Type: api.TypeB, Bool: true}}
	case api.OpFalse:
		return found{value: api.Value{Type: api.TypeB}}
	case api.OpNil:
		return found{value: api.Value{Type: api.TypeL}}
	case api.OpFail:
		panic(api.TrapFail)
	case api.OpVar:
		return b[e.Name]()
	case api.OpCall:
		return w.call(e.Name, later)
	case api.OpCons:
		return found{head: later(0), tail: later(1)}
	case api.OpIf:
		if w.look(e.Args[0], b).value.Bool {
			return w.look(e.Args[1], b)
		}
		return w.look(e.Args[2], b)
	case api.OpCase:
		l := w.look(e.Args[0], b)
		if l.head == nil {
			return w.look(e.Args[1], b)
		}
		return w.look(e.Args[2], b.and(e.Name, l.head).and(e.Tail, l.tail))
	case api.OpLet:
		inner := maps.Clone(b)
		inner[e.Name] = func() found { return w.look(e.Args[0], inner) }
		return w.look(e.Args[1], inner)
	case api.OpStrict:
		first := w.look(e.Args[0], b)
		return w.look(e.Args[1], b.and(e.Name, func() found { return first }))
	}
	var operands []api.Value
	for _, x := range e.Args {
		operands = append(operands, w.look(x, b).value)
	}
	v, why := prim.Apply(e.Op, operands)
	if why != api.OK {
		panic(why)
	}
	return found{value: v}
}

func (w *words) call(name string, argument func(i int) func() found) found {
	i := slices.IndexFunc(w.p.Funcs, func(f api.Func) bool { return f.Name == name })
	b := bound{}
	for k, param := range w.p.Funcs[i].Params {
		b[param.Name] = argument(k)
	}
	return w.look(w.p.Funcs[i].Body, b)
}

// given is a value as a thing; a list is pairs of numbers.
func given(v api.Value) func() found {
	if v.Type != api.TypeL || len(v.List) == 0 {
		return func() found { return found{value: v} }
	}
	head, tail := api.Value{Type: api.TypeN, Num: v.List[0]}, api.Value{Type: api.TypeL, List: v.List[1:]}
	return func() found { return found{head: given(head), tail: given(tail)} }
}

func (f found) whole() api.Value {
	if f.head == nil {
		return f.value
	}
	first := f.head().value.Num
	rest := f.tail().whole()
	return api.Value{Type: api.TypeL, List: append([]complex128{first}, rest.List...)}
}

// byWords is what Call tells of a sound program's function and of arguments that fit.
func byWords(p api.Program, name string, args []api.Value, most int) (r api.Result) {
	w := &words{p: p, most: most}
	defer func() {
		r.Moves = w.cost
		if why, trapped := recover().(api.Errno); trapped {
			r.Why = why
		}
	}()
	return api.Result{Value: w.call(name, func(i int) func() found { return given(args[i]) }).whole()}
}

// drawer draws a sound program's text, of few names, so that they are often bound anew; the same each time for one source.
type drawer struct {
	source *rand.Rand
	room   int // parts that may still be drawn, about
	names  []string
	funcs  []string // name, the parameters' letters, the type's letter
	env    []string // name and letter, the nearest last
}

// letters are the types' letters, at their numbers.
const letters = " NBL"

func (d *drawer) letter() byte { return letters[1+d.source.Intn(3)] }

func (d *drawer) name() string { return d.names[d.source.Intn(len(d.names))] }

func one[T any](d *drawer, of []T) T { return of[d.source.Intn(len(of))] }

// forms are what may be drawn of a type: ? is a variable, & a call, let, strict and case what is said by these; in all
// others N, B and L are parts of that type, and $ is one of the same type.
func (d *drawer) forms(letter byte) []string {
	plain := map[byte][]string{'N': {"1", "2i", "0", "3", "16777216"}, 'B': {"true", "false"}, 'L': {"nil"}}[letter]
	variable := []string{"?", "?", "?", "?", "?", "?"}
	if d.source.Intn(20) == 0 {
		variable[0] = "fail " + string(letter)
	}
	if d.room <= 0 {
		return append(plain, variable...)
	}
	own := map[byte][]string{
		'N': {"N+N", "N-N", "N*N", "N/N", "re(N)", "im(N)", "conj(N)"},
		'B': {"N==N", "N<N", "not(B)", "not(B)"},
		'L': {"N:L", "N:L", "N:L", "N:L"},
	}[letter]
	same := []string{"&", "&", "&", "if B then $ else $", "if B then $ else $", "let", "let", "strict", "strict", "case", "case"}
	return slices.Concat(variable[:2], own, own, same)
}

func (d *drawer) expr(letter byte) string {
	d.room--
	switch form := one(d, d.forms(letter)); form {
	case "let", "strict":
		return d.binder(form, letter)
	case "case":
		return d.looksInto(letter)
	case "&":
		return d.call(letter)
	case "?":
		return d.variable(letter)
	default:
		return d.fill(form, letter)
	}
}

func (d *drawer) fill(form string, letter byte) string {
	if strings.HasPrefix(form, "fail") {
		return form
	}
	var text strings.Builder
	for _, c := range []byte(form) {
		switch c {
		case 'N', 'B', 'L':
			text.WriteString("(" + d.expr(c) + ")")
		case '$':
			text.WriteString("(" + d.expr(letter) + ")")
		default:
			text.WriteByte(c)
		}
	}
	return text.String()
}

// in draws while more names are bound.
func (d *drawer) in(letter byte, bound ...string) string {
	d.env = append(d.env, bound...)
	text := d.expr(letter)
	d.env = d.env[:len(d.env)-len(bound)]
	return "(" + text + ")"
}

func (d *drawer) binder(word string, letter byte) string {
	bound, of := d.name()+" ", d.letter()
	bound += string(of)
	if word == "let" {
		return "let " + bound + "=" + d.in(of, bound) + " in " + d.in(letter, bound)
	}
	return "strict " + bound + "=" + d.in(of) + " in " + d.in(letter, bound)
}

func (d *drawer) looksInto(letter byte) string {
	head, tail := d.name(), d.name()
	return "case " + d.in('L') + " of nil->" + d.in(letter) + "|" + head + ":" + tail + "->" + d.in(letter, head+" N", tail+" L")
}

// variable is one of that type, if its name isn't bound anew nearer; else what stands for itself.
func (d *drawer) variable(letter byte) string {
	seen := map[string]int{}
	var fit []string
	for _, x := range slices.Backward(d.env) {
		name := x[:len(x)-2]
		if seen[name]++; seen[name] == 1 && x[len(x)-1] == letter {
			fit = append(fit, name)
		}
	}
	if len(fit) == 0 {
		return map[byte]string{'N': "4", 'B': "false", 'L': "nil"}[letter]
	}
	return one(d, fit)
}

func (d *drawer) call(letter byte) string {
	for range 20 {
		name, kinds, _ := strings.Cut(one(d, d.funcs), " ")
		if kinds[len(kinds)-1] != letter {
			continue
		}
		var args []string
		for _, c := range []byte(kinds[:len(kinds)-1]) {
			args = append(args, d.expr(c))
		}
		return name + "(" + strings.Join(args, ", ") + ")"
	}
	return d.variable(letter)
}

// definition is one of the functions; its parameters have the first names, so that none stands twice.
func (d *drawer) definition(f string) string {
	name, kinds, _ := strings.Cut(f, " ")
	d.env = nil
	for i, c := range []byte(kinds[:len(kinds)-1]) {
		d.env = append(d.env, d.names[i]+" "+string(c))
	}
	params, letter := strings.Join(d.env, ", "), kinds[len(kinds)-1]
	return name + "(" + params + "): " + string(letter) + " = " + d.expr(letter) + ";\n"
}

func (d *drawer) program(room int) string {
	d.funcs = nil
	for i := range 1 + d.source.Intn(4) {
		kinds := ""
		for range d.source.Intn(4) {
			kinds += string(d.letter())
		}
		d.funcs = append(d.funcs, []string{"f", "x", "g", "h"}[i]+strconv.Itoa(i)+" "+kinds+string(d.letter()))
	}
	text := ""
	for _, f := range d.funcs {
		d.room = d.source.Intn(room)
		text += d.definition(f)
	}
	return text
}

// arguments are values that fit parameters.
func (d *drawer) arguments(params []api.Param) []api.Value {
	var all []api.Value
	for _, param := range params {
		all = append(all, one(d, map[api.Type][]api.Value{
			api.TypeN: {{Num: 0}, {Num: 1}, {Num: 2}, {Num: -3 + 4i}, {Num: api.Most}},
			api.TypeB: {{Bool: false}, {Bool: true}},
			api.TypeL: {{}, {List: []complex128{5}}, {List: []complex128{1, 2i}}, {List: []complex128{0, -1, 7 - 1i}}},
		}[param.Type]))
		all[len(all)-1].Type = param.Type
	}
	return all
}

var wide = api.Limits{Text: api.MaxWide, Funcs: 1 << 15, Arity: 1 << 15, Nest: 1 << 15}

func programOf(t *testing.T, text string) api.Program {
	t.Helper()
	p, f := lang.Parse([]byte(text), wide)
	if f != (api.Fault{}) {
		t.Fatalf("%.300q: %v", text, f)
	}
	return p
}

func lineOf(t *testing.T, text string) []api.Value {
	t.Helper()
	l, e := value.Split(text)
	if e != api.OK {
		t.Fatalf("%q: %v", text, e)
	}
	return l
}

// drawnCall is a function of a drawn program, and arguments for it.
type drawnCall struct {
	p    api.Program
	text string
	f    api.Func
	args []api.Value
}

// drawCalls are a call of each function of n programs of about so many parts a definition at most.
func drawCalls(t *testing.T, seed int64, n, room int) []drawnCall {
	t.Helper()
	source := rand.New(rand.NewSource(seed))
	var all []drawnCall
	for range n {
		d := drawer{source: source, names: []string{"x", "y", "f0", "t1", "aa"}[:3+source.Intn(3)]}
		text := d.program(room)
		p := programOf(t, text)
		for _, f := range p.Funcs {
			all = append(all, drawnCall{p, text, f, d.arguments(f.Params)})
		}
	}
	return all
}

func same(a, b api.Result) bool {
	sameValue := value.Same(a.Value, b.Value) || a.Value.Type == 0 && b.Value.Type == 0
	a.Value.List, b.Value.List = nil, nil
	return sameValue && a.Why == b.Why && a.Moves == b.Moves && a.Thunks == b.Thunks && a.Updates == b.Updates && a.Calls == b.Calls &&
		a.Value.Num == b.Value.Num && a.Value.Bool == b.Value.Bool
}
