package scope

import (
	"cmp"
	"math/rand"
	"slices"
	"strings"
	"testing"

	"fathom/api"
	"fathom/lang"
)

// What the calls are held against: the document's words, asked of each place with all that stands around it.

// step is an expression, and which of its parts is gone into.
type step struct {
	e    api.Expr
	part int
}

// place is an expression and the steps to it from the outermost one on.
type place struct {
	e   api.Expr
	way []step
}

func places(e api.Expr, way []step) []place {
	all := []place{{e, way}}
	for i, part := range e.Args {
		all = append(all, places(part, append(slices.Clone(way), step{e, i}))...)
	}
	return all
}

// binds says whether a name is bound in the part that the step goes into.
func (s step) binds(name string) bool {
	switch s.e.Op {
	case api.OpLet:
		return s.e.Name == name
	case api.OpStrict:
		return s.e.Name == name && s.part == 1
	case api.OpCase:
		return (s.e.Name == name || s.e.Tail == name) && s.part == 2
	}
	return false
}

func (p place) free() bool {
	return p.e.Op == api.OpVar && !slices.ContainsFunc(p.way, func(s step) bool { return s.binds(p.e.Name) })
}

func freeByWords(e api.Expr) []string {
	var all []string
	for _, p := range places(e, nil) {
		if p.free() {
			all = append(all, p.e.Name)
		}
	}
	slices.Sort(all)
	return all
}

func namesByWords(f api.Func) []string {
	all := []string{f.Name}
	for _, x := range f.Params {
		all = append(all, x.Name)
	}
	for _, p := range places(f.Body, nil) {
		if p.e.Name != "" {
			all = append(all, p.e.Name)
		}
		if p.e.Tail != "" {
			all = append(all, p.e.Tail)
		}
	}
	slices.Sort(all)
	return slices.Compact(all)
}

func nestByWords(e api.Expr) int {
	nests := func(e api.Expr) bool { return slices.Contains([]api.Op{api.OpLet, api.OpStrict, api.OpCase}, e.Op) }
	most := 0
	for _, p := range places(e, nil) {
		n := 0
		for _, s := range p.way {
			if nests(s.e) {
				n++
			}
		}
		if nests(p.e) {
			most = max(most, n+1)
		}
	}
	return most
}

func hasParam(params []api.Param, name string) bool {
	return slices.ContainsFunc(params, func(x api.Param) bool { return x.Name == name })
}

// faultsByWords are all faults of a program.
func faultsByWords(p api.Program) []api.Fault {
	var all []api.Fault
	find := func(funcs []api.Func, name string) int {
		return slices.IndexFunc(funcs, func(f api.Func) bool { return f.Name == name })
	}
	for i, f := range p.Funcs {
		if find(p.Funcs[:i], f.Name) >= 0 {
			all = append(all, api.Fault{Why: api.ErrTwice, At: f.At})
		}
		for j, x := range f.Params {
			if hasParam(f.Params[:j], x.Name) {
				all = append(all, api.Fault{Why: api.ErrTwice, At: x.At})
			}
		}
		for _, s := range places(f.Body, nil) {
			called := find(p.Funcs, s.e.Name)
			switch {
			case s.free() && !hasParam(f.Params, s.e.Name):
				all = append(all, api.Fault{Why: api.ErrName, At: s.e.At})
			case s.e.Op == api.OpCall && called < 0:
				all = append(all, api.Fault{Why: api.ErrFunc, At: s.e.At})
			case s.e.Op == api.OpCall && len(p.Funcs[called].Params) != len(s.e.Args):
				all = append(all, api.Fault{Why: api.ErrCount, At: s.e.At})
			}
		}
	}
	return all
}

func faultByWords(p api.Program) api.Fault {
	all := faultsByWords(p)
	if len(all) == 0 {
		return api.Fault{}
	}
	return slices.MinFunc(all, func(a, b api.Fault) int { return cmp.Compare(a.At, b.At) })
}

// drawer draws a program's text, of few names, so that they often mean something and often stand twice; the same each
// time for one source.
type drawer struct {
	source *rand.Rand
	room   int // parts that may still be drawn, about
	names  []string
	funcs  []string
	most   int // arguments of a call
}

func (d *drawer) name() string { return d.names[d.source.Intn(len(d.names))] }

func (d *drawer) forms() []string {
	if d.room <= 0 {
		return []string{"1", "2i", "true", "false", "nil", "fail B", "@", "@", "@", "@", "&"}
	}
	return []string{
		"@", "@", "&", "&", "& + $", "$-&", "$ * $", "$/$", "$==$", "$ <$", "not($)", "re($)", "im($)", "conj($)", "$:$", "if $ then $ else $",
		"case $ of nil->$|@:@ -> $", "case $ of nil -> $|@:@->$", "let @ N=$ in $", "let @ B = $ in $", "strict @ L=$ in $", "strict @ N= $ in $",
	}
}

// expr fills in a form: @ is a name, & a call, $ a part.
func (d *drawer) expr() string {
	d.room--
	forms := d.forms()
	var text strings.Builder
	for _, c := range forms[d.source.Intn(len(forms))] {
		switch c {
		case '@':
			text.WriteString(d.name())
		case '&':
			text.WriteString(d.call())
		case '$':
			text.WriteString("(" + d.expr() + ")")
		default:
			text.WriteRune(c)
		}
	}
	return text.String()
}

func (d *drawer) call() string {
	var args []string
	for range d.source.Intn(d.most + 1) {
		args = append(args, d.expr())
	}
	return d.funcs[d.source.Intn(len(d.funcs))] + "(" + strings.Join(args, ", ") + ")"
}

func (d *drawer) definition() string {
	var params []string
	for range d.source.Intn(3) {
		params = append(params, d.name()+" N")
	}
	return d.funcs[d.source.Intn(len(d.funcs))] + "(" + strings.Join(params, ", ") + "): N = " + d.expr() + ";\n"
}

var wide = api.Limits{Text: api.MaxWide, Funcs: 1 << 15, Arity: 1 << 15, Nest: 1 << 15}

func programOf(t *testing.T, text string) api.Program {
	t.Helper()
	p, f := lang.Parse([]byte(text), wide)
	if f != (api.Fault{}) {
		t.Fatalf("%.300q: %v", text, f)
	}
	return p
}

func exprOf(t *testing.T, text string) api.Expr {
	t.Helper()
	return programOf(t, "f():N="+text+";").Funcs[0].Body
}

// drawPrograms are n programs of about so many parts a definition at most.
func drawPrograms(t *testing.T, seed int64, n, room int) []api.Program {
	t.Helper()
	source := rand.New(rand.NewSource(seed))
	var all []api.Program
	for len(all) < n {
		names := []string{"x", "y", "f", "t1", "aa", "Z"}[:1+source.Intn(6)]
		funcs := []string{"f", "x", "g", "t2"}[:1+source.Intn(4)]
		text := ""
		for range 1 + source.Intn(3) {
			d := drawer{source: source, room: source.Intn(room), names: names, funcs: funcs, most: source.Intn(3)}
			text += d.definition()
		}
		if len(text) <= api.MaxWide {
			all = append(all, programOf(t, text))
		}
	}
	return all
}
