package types

import (
	"math/rand"
	"slices"
	"strconv"
	"strings"
	"testing"

	"fathom/api"
	"fathom/lang"
	"fathom/scope"
)

// What the calls are held against: the document's words, asked of each place with all that stands around it.

// step is an expression, and which of its parts is gone into.
type step struct {
	e    api.Expr
	part int
}

// place is an expression and the steps to it from the outermost one on.
type place struct {
	e   api.Expr
	way []step
}

func places(e api.Expr, way []step) []place {
	all := []place{{e, way}}
	for i, part := range e.Args {
		all = append(all, places(part, append(slices.Clone(way), step{e, i}))...)
	}
	return all
}

// letters are the types' letters, at their numbers.
const letters = " NBL"

func typeOf(letter byte) api.Type { return api.Type(strings.IndexByte(letters, letter)) }

// signs has of an Op its own type and what is wanted of its parts: a letter of a type; w what is written there, p what is
// bound, a function's or its parameters', o what is wanted of the expression itself; - none.
var signs = map[api.Op]string{
	api.OpNum: "N", api.OpTrue: "B", api.OpFalse: "B", api.OpNil: "L", api.OpFail: "w", api.OpVar: "p", api.OpCall: "pppppp",
	api.OpAdd: "NNN", api.OpSub: "NNN", api.OpMul: "NNN", api.OpQuo: "NNN", api.OpEq: "BNN", api.OpLess: "BNN", api.OpNot: "BB",
	api.OpRe: "NN", api.OpIm: "NN", api.OpConj: "NN", api.OpCons: "LNL", api.OpIf: "-Boo", api.OpCase: "-Loo", api.OpLet: "-wo", api.OpStrict: "-wo",
}

// around is what stands around an expression: its program, the names with types, the type that is wanted.
type around struct {
	p      api.Program
	env    []api.Param
	wanted api.Type
}

func (a around) function(name string) (api.Func, bool) {
	for _, f := range a.p.Funcs {
		if f.Name == name {
			return f, true
		}
	}
	return api.Func{}, false
}

// bound is the type of the nearest binding of a name, from the way's end on.
func (a around) bound(name string, way []step) (api.Type, bool) {
	for _, s := range slices.Backward(way) {
		switch {
		case s.e.Op == api.OpCase && s.part == 2 && s.e.Tail == name:
			return api.TypeL, true
		case s.e.Op == api.OpCase && s.part == 2 && s.e.Name == name:
			return api.TypeN, true
		case s.e.Name == name && (s.e.Op == api.OpLet || s.e.Op == api.OpStrict && s.part == 1):
			return s.e.Type, true
		}
	}
	for _, x := range slices.Backward(a.env) {
		if x.Name == name {
			return x.Type, true
		}
	}
	return 0, false
}

// wantedAt is what is wanted at the end of a way, where all calls on it have their functions.
func (a around) wantedAt(way []step) api.Type {
	if len(way) == 0 {
		return a.wanted
	}
	last := way[len(way)-1]
	switch sign := signs[last.e.Op][1+last.part]; sign {
	case 'w':
		return last.e.Type
	case 'o':
		return a.wantedAt(way[:len(way)-1])
	case 'p':
		f, _ := a.function(last.e.Name)
		return f.Params[last.part].Type
	default:
		return typeOf(sign)
	}
}

// named says whether what an expression names is there.
func (a around) named(x place) bool {
	switch x.e.Op {
	case api.OpVar:
		_, found := a.bound(x.e.Name, x.way)
		return found
	case api.OpCall:
		f, found := a.function(x.e.Name)
		return found && len(f.Params) == len(x.e.Args)
	}
	return true
}

// fits says whether an expression in which all names are there has no own type, or the one that is wanted.
func (a around) fits(x place) bool {
	wanted := a.wantedAt(x.way)
	switch sign := signs[x.e.Op][0]; {
	case sign == '-':
		return true
	case sign == 'w':
		return x.e.Type == wanted
	case x.e.Op == api.OpVar:
		own, _ := a.bound(x.e.Name, x.way)
		return own == wanted
	case x.e.Op == api.OpCall:
		f, _ := a.function(x.e.Name)
		return f.Type == wanted
	default:
		return typeOf(sign) == wanted
	}
}

// misfits are the places of an expression whose own type is another one than is wanted.
func (a around) misfits(e api.Expr) []int {
	var all []int
	for _, x := range places(e, nil) {
		if !a.fits(x) {
			all = append(all, x.e.At)
		}
	}
	return all
}

func faultByWords(p api.Program) api.Fault {
	if f := scope.Check(p); f.Why != api.OK {
		return f
	}
	var all []int
	for _, f := range p.Funcs {
		all = append(all, around{p, f.Params, f.Type}.misfits(f.Body)...)
	}
	if len(all) == 0 {
		return api.Fault{}
	}
	return api.Fault{Why: api.ErrType, At: slices.Min(all)}
}

// typesByWords are the types that an expression may have.
func typesByWords(p api.Program, env []api.Param, e api.Expr) []api.Type {
	all := places(e, nil)
	if slices.ContainsFunc(all, func(x place) bool { return !(around{p, env, 0}).named(x) }) {
		return nil
	}
	var found []api.Type
	for _, t := range []api.Type{api.TypeN, api.TypeB, api.TypeL} {
		if len(around{p, env, t}.misfits(e)) == 0 {
			found = append(found, t)
		}
	}
	return found
}

// drawer draws a program's text, mostly of the types that are wanted, of few names, so that they are often bound anew; the
// same each time for one source.
type drawer struct {
	source *rand.Rand
	room   int // parts that may still be drawn, about
	amiss  int // of a hundred parts those that are of another type than is wanted, about
	names  []string
	funcs  []string // name, the parameters' letters, the type's letter
	env    []string // name and letter, the nearest last
}

func (d *drawer) letter() byte { return letters[1+d.source.Intn(3)] }

func (d *drawer) name() string { return d.names[d.source.Intn(len(d.names))] }

// forms are what may be drawn of a type: ? is a variable, & a call, let, strict and case what is said by these; in all
// others N, B and L are parts of that type, and $ is one of the same type.
func (d *drawer) forms(letter byte) []string {
	plain := map[byte][]string{'N': {"1", "2i"}, 'B': {"true", "false"}, 'L': {"nil"}}[letter]
	plain = append(plain, "fail "+string(letter), "?", "?", "?", "?")
	if d.room <= 0 {
		return plain
	}
	own := map[byte][]string{
		'N': {"N + N", "N-N", "N * N", "N/N", "re(N)", "im(N)", "conj(N)"},
		'B': {"N==N", "N < N", "not(B)", "not(B)"},
		'L': {"N:L", "N : L", "N:L"},
	}[letter]
	same := []string{"&", "&", "&", "if B then $ else $", "if B then $ else $", "let", "let", "strict", "strict", "case", "case"}
	return slices.Concat(plain[:2], own, own, same)
}

// expr is a text of an expression of that type, but where it goes amiss.
func (d *drawer) expr(letter byte) string {
	d.room--
	if d.source.Intn(100) < d.amiss {
		letter = d.letter()
	}
	forms := d.forms(letter)
	switch form := forms[d.source.Intn(len(forms))]; form {
	case "let", "strict":
		return d.binder(form, letter)
	case "case":
		return d.looksInto(letter)
	case "&":
		return d.call(letter)
	case "?":
		return d.variable(letter)
	default:
		return d.fill(form, letter)
	}
}

func (d *drawer) fill(form string, letter byte) string {
	if strings.HasPrefix(form, "fail") {
		return form
	}
	var text strings.Builder
	for _, c := range []byte(form) {
		switch c {
		case 'N', 'B', 'L':
			text.WriteString("(" + d.expr(c) + ")")
		case '$':
			text.WriteString("(" + d.expr(letter) + ")")
		default:
			text.WriteByte(c)
		}
	}
	return text.String()
}

// in draws while more names are bound.
func (d *drawer) in(letter byte, bound ...string) string {
	d.env = append(d.env, bound...)
	text := d.expr(letter)
	d.env = d.env[:len(d.env)-len(bound)]
	return "(" + text + ")"
}

func (d *drawer) binder(word string, letter byte) string {
	name, of := d.name(), d.letter()
	bound := name + " " + string(of)
	if word == "let" {
		return "let " + bound + "=" + d.in(of, bound) + " in " + d.in(letter, bound)
	}
	return "strict " + bound + "=" + d.in(of) + " in " + d.in(letter, bound)
}

func (d *drawer) looksInto(letter byte) string {
	head, tail := d.name(), d.name()
	return "case " + d.in('L') + " of nil->" + d.in(letter) + "|" + head + ":" + tail + "->" + d.in(letter, head+" N", tail+" L")
}

// variable is one of that type, if its name isn't bound anew nearer; else a fail.
func (d *drawer) variable(letter byte) string {
	seen := map[string]int{}
	var fit []string
	for _, x := range slices.Backward(d.env) {
		name := x[:len(x)-2]
		if seen[name]++; seen[name] == 1 && (x[len(x)-1] == letter || d.source.Intn(100) < d.amiss) {
			fit = append(fit, name)
		}
	}
	if len(fit) == 0 {
		return "fail " + string(letter)
	}
	return fit[d.source.Intn(len(fit))]
}

func (d *drawer) call(letter byte) string {
	for range 20 {
		f := d.funcs[d.source.Intn(len(d.funcs))]
		name, kinds, _ := strings.Cut(f, " ")
		if kinds[len(kinds)-1] != letter && d.source.Intn(100) >= d.amiss {
			continue
		}
		var args []string
		for _, c := range []byte(kinds[:len(kinds)-1]) {
			args = append(args, d.expr(c))
		}
		return name + "(" + strings.Join(args, ", ") + ")"
	}
	return d.variable(letter)
}

// definition is one of the functions; its parameters have the first names, so that none stands twice.
func (d *drawer) definition(f string) string {
	name, kinds, _ := strings.Cut(f, " ")
	d.env = nil
	for i, c := range []byte(kinds[:len(kinds)-1]) {
		d.env = append(d.env, d.names[i]+" "+string(c))
	}
	params, letter := strings.Join(d.env, ", "), kinds[len(kinds)-1]
	return name + "(" + params + "): " + string(letter) + " = " + d.expr(letter) + ";\n"
}

func (d *drawer) program(room int) string {
	d.funcs = nil
	for i := range 1 + d.source.Intn(4) {
		kinds := ""
		for range d.source.Intn(4) {
			kinds += string(d.letter())
		}
		d.funcs = append(d.funcs, []string{"f", "x", "g", "h"}[i]+strconv.Itoa(i)+" "+kinds+string(d.letter()))
	}
	text := ""
	for _, f := range d.funcs {
		d.room = d.source.Intn(room)
		text += d.definition(f)
	}
	return text
}

var wide = api.Limits{Text: api.MaxWide, Funcs: 1 << 15, Arity: 1 << 15, Nest: 1 << 15}

func programOf(t *testing.T, text string) api.Program {
	t.Helper()
	p, f := lang.Parse([]byte(text), wide)
	if f != (api.Fault{}) {
		t.Fatalf("%.300q: %v", text, f)
	}
	return p
}

func exprOf(t *testing.T, text string) api.Expr {
	t.Helper()
	return programOf(t, "f():N="+text+";").Funcs[0].Body
}

// drawPrograms are n programs of about so many parts a definition at most, in which so many of a hundred parts go amiss.
func drawPrograms(t *testing.T, seed int64, n, room, amiss int) []api.Program {
	t.Helper()
	source := rand.New(rand.NewSource(seed))
	var all []api.Program
	for len(all) < n {
		d := drawer{source: source, amiss: amiss, names: []string{"x", "y", "f0", "t1", "aa"}[:3+source.Intn(3)]}
		if text := d.program(room); len(text) <= api.MaxWide {
			all = append(all, programOf(t, text))
		}
	}
	return all
}
