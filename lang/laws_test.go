package lang

import (
	"bytes"
	"math/rand"
	"strings"
	"testing"

	"fathom/api"
)

// withoutPlaces is a program with each place 0.
func withoutPlaces(p api.Program) api.Program {
	var bare api.Program
	for _, f := range p.Funcs {
		g := api.Func{Name: f.Name, Type: f.Type, Body: bareExpr(f.Body)}
		for _, x := range f.Params {
			g.Params = append(g.Params, api.Param{Name: x.Name, Type: x.Type})
		}
		bare.Funcs = append(bare.Funcs, g)
	}
	return bare
}

func bareExpr(e api.Expr) api.Expr {
	var args []api.Expr
	for _, x := range e.Args {
		args = append(args, bareExpr(x))
	}
	e.Args, e.At = args, 0
	return e
}

func programOf(t *testing.T, text string) api.Program {
	t.Helper()
	p, f := Parse([]byte(text), api.Limits{Text: api.MaxWide, Funcs: 999, Arity: 999, Nest: 999})
	if f != (api.Fault{}) || len(p.Funcs) == 0 {
		t.Fatalf("%q: %v", text, f)
	}
	return p
}

// P4.3

func TestBlanksAndRemarksChangePlacesAlone(t *testing.T) {
	source := rand.New(rand.NewSource(43))
	for range 1000 {
		words := drawProgram(source).write(source, 5)
		dense, loose := join(source, words, true), join(source, words, false)+"\n# the end"
		if len(loose) <= api.MaxWide && !same(withoutPlaces(programOf(t, dense)), withoutPlaces(programOf(t, loose))) {
			t.Fatalf("%q and %q differ", dense, loose)
		}
	}
}

func TestBracketsMoreChangePlacesAlone(t *testing.T) {
	source := rand.New(rand.NewSource(44))
	for range 1000 {
		drawn := drawProgram(source)
		bare, more := join(source, drawn.write(source, 0), true), join(source, drawn.write(source, 1+source.Intn(100)), true)
		if len(more) <= api.MaxWide && !same(withoutPlaces(programOf(t, bare)), withoutPlaces(programOf(t, more))) {
			t.Fatalf("%q and %q differ", bare, more)
		}
	}
	body := func(e string) api.Program { return withoutPlaces(programOf(t, "f():N="+e+";")) }
	for _, pair := range [][2]string{
		{"1-2-3", "(1-2)-3"}, {"1:2:3", "1:(2:3)"}, {"1+2*3", "1+(2*3)"}, {"1<2+3", "1<(2+3)"}, {"1<2:3", "(1<2):3"},
		{"let x N=1 in 2:3", "let x N=1 in (2:3)"}, {"if a then b else c+d", "if a then b else (c+d)"},
		{"case a of nil->b|h:t->c:d", "case a of nil->b|h:t->(c:d)"}, {"case a of nil->case b of nil->c|h:t->d|h:t->e", "case a of nil->(case b of nil->c|h:t->d)|h:t->e"},
	} {
		if !same(body(pair[0]), body(pair[1])) {
			t.Errorf("%s and %s differ", pair[0], pair[1])
		}
	}
	for _, pair := range [][2]string{
		{"1-2-3", "1-(2-3)"}, {"1:2:3", "(1:2):3"}, {"1/2*3", "1/(2*3)"}, {"let x N=1 in 2:3", "(let x N=1 in 2):3"},
		{"if a then b else c+d", "(if a then b else c)+d"}, {"case a of nil->b|h:t->c:d", "(case a of nil->b|h:t->c):d"},
	} {
		if same(body(pair[0]), body(pair[1])) {
			t.Errorf("%s and %s are one", pair[0], pair[1])
		}
	}
}

func TestGreaterLimitsChangeNothing(t *testing.T) {
	source := rand.New(rand.NewSource(45))
	parsed := 0
	for range 4000 {
		text := join(source, drawProgram(source).write(source, 3), true)
		l := drawLimits(source, text)
		small, f := Parse([]byte(text), l)
		if f != (api.Fault{}) {
			continue
		}
		parsed++
		l.Text += source.Intn(3) * 20000
		l.Funcs += source.Intn(3)
		l.Arity += source.Intn(3)
		l.Nest += source.Intn(3)
		if great, f := Parse([]byte(text), l); f != (api.Fault{}) || !same(small, great) {
			t.Fatalf("%q, %v: %v, %v; not %v", text, l, great, f, small)
		}
	}
	if parsed < 400 {
		t.Errorf("only %d were parsed under small limits", parsed)
	}
}

// P4.4

// lists are where a program's elements lie, those of spare room too.
type lists struct {
	funcs  map[*api.Func]int
	params map[*api.Param]int
	exprs  map[*api.Expr]int
}

func (l lists) add(p api.Program) {
	for i := range p.Funcs[:cap(p.Funcs)] {
		l.funcs[&p.Funcs[:cap(p.Funcs)][i]]++
	}
	for _, f := range p.Funcs {
		for i := range f.Params[:cap(f.Params)] {
			l.params[&f.Params[:cap(f.Params)][i]]++
		}
		l.addExpr(f.Body)
	}
}

func (l lists) addExpr(e api.Expr) {
	for i := range e.Args[:cap(e.Args)] {
		l.exprs[&e.Args[:cap(e.Args)][i]]++
	}
	for _, x := range e.Args {
		l.addExpr(x)
	}
}

func shared[T comparable](all map[T]int) bool {
	for _, n := range all {
		if n > 1 {
			return true
		}
	}
	return false
}

func TestAnswersAreNew(t *testing.T) {
	source := rand.New(rand.NewSource(46))
	for range 300 {
		text := join(source, drawProgram(source).write(source, 10), true)
		l := lists{map[*api.Func]int{}, map[*api.Param]int{}, map[*api.Expr]int{}}
		l.add(programOf(t, text))
		l.add(programOf(t, text))
		if shared(l.funcs) || shared(l.params) || shared(l.exprs) {
			t.Fatalf("%q: two lists share memory", text)
		}
	}
}

func TestTextStays(t *testing.T) {
	source := rand.New(rand.NewSource(47))
	texts := []string{"", "@", "f():N=1", "f():N=x y;", "f():N=1;;", "f(x N):N=let"}
	for range 300 {
		texts = append(texts, join(source, drawProgram(source).write(source, 10), true))
	}
	for _, text := range texts {
		room := append([]byte(text), " g():N=1; @"...)
		before := bytes.Clone(room)
		first, f := Parse(room[:len(text)], wide)
		if !bytes.Equal(room, before) {
			t.Fatalf("%q was changed to %q", before, room)
		}
		copy(room, strings.Repeat("z", len(room)))
		if second, g := Parse([]byte(text), wide); f != g || !same(first, second) {
			t.Fatalf("%q: the program follows what is written into the text", text)
		}
	}
}

// What is asked hangs on nothing that was asked before, a text that was given up on too.
func TestCallsAreApart(t *testing.T) {
	good := "f(x N):N=let y N=1 in case nil of nil->x|h:t->h;"
	want := programOf(t, good)
	for _, bad := range []string{"f():N=let x N=let y N=let z N=(((", "f(x N,y N", "@", "f():N=1; g", "f():N=case case"} {
		Parse([]byte(bad), wide)
		Parse([]byte(bad), api.Limits{Text: 99, Funcs: 1, Arity: 1, Nest: 1})
		if got, f := Parse([]byte(good), api.Limits{Text: 99, Funcs: 1, Arity: 1, Nest: 2}); f != (api.Fault{}) || !same(got, want) {
			t.Fatalf("behind %q: %v, %v", bad, got, f)
		}
	}
}
